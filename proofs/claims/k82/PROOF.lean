import PyProof.Rows.All
import Wide.All
import OpenK.AllK
import Wide.FinOn
import HandS.ForMost
import HandS.Exc
import HandS.ExcInit
import HandS.ExcIs
import HandS.ExcField
import PyProof.ReprReads
import HandS.NoneIn
import HandS.Flow
import HandS.IsInst
import HandS.Walk
import HandS.More
import PyProof.TupleOfSeq
import PyProof.Rows.SortStr
import HandS.Conv
import KE.KDictSum
import HandS.WordsExc
import HandS.ForExc
import HandS.Text
import HandS.FStr
import HandS.Property
import OpenK.KMeth
import OpenK.KOps
import HandS.OwnEq
import PyProof.InstNe
import HandS.SetKeys
import PyProof.StrBlock2
import HandS.Codes
import HandS.ExcOwn
import HandS.List
import PySem.Challenge.RW_foldsame_k82_places_in_questions
set_option Elab.async false
set_option linter.all false
set_option maxRecDepth 100000
set_option maxHeartbeats 4000000
/-! Own rules: exceptions of own classes as values (made, read, asked by isinstance), repr of lists of plain values. -/
namespace PySem.W
open PySem PySem.Spec PySem.Calls PyProof.Rows
section
variable {prog : Program} {w : World} {A : Around} {E : Value → Shared → Prop} {s : Shared} {K : Frag} {x D : Addr} {ox : Obj} {od : Option Obj}
theorem fs_findClass (hdct : hasDictIn K D = true) (ha : findIn K (.ref D) "__class__" = some (some (.builtin "object.__class__"))) (hn : specialIn K (.builtin "object.__class__") "__get__" = some (some (.builtin "getset_descriptor.__get__")))
    (htk : takesIn K (.builtin "object.__class__") = some true) : findObj K D od "__class__" = some (.bind (.builtin "getset_descriptor.__get__") (.builtin "object.__class__")) := by
  obtain ⟨cd, hcd, _⟩ := any_some hdct
  unfold findObj; rw [hcd, Option.bind_some, ha, Option.bind_some]; simp [hn, htk]
theorem fs_class {Q : Option Value → Shared → Prop} (hga : findIn K (.ref D) "__getattribute__" = some (some (.builtin "BaseException.__getattribute__"))) (hgt : findIn K (.ref D) "__getattr__" = some none) (hsub : subIn K (.ref D) (.type "BaseException") = some true)
    (hdct : hasDictIn K D = true) (ha : findIn K (.ref D) "__class__" = some (some (.builtin "object.__class__")))
    (hn : specialIn K (.builtin "object.__class__") "__get__" = some (some (.builtin "getset_descriptor.__get__"))) (htk : takesIn K (.builtin "object.__class__") = some true) (hm : mroIn K D (.type "object") = some true)
    (KX : K.In s.heap) (J : InstAt s.heap x ox D od) (hq : Q (some (.ref D)) { s with toks := s.toks + 1 }) : wpAny (model prog w) A (getAttr? (.ref x) "__class__") Q E s := by
  have hfind : findObj K D od "__class__" = some (.bind (.builtin "getset_descriptor.__get__") (.builtin "object.__class__")) := fs_findClass hdct ha hn htk
  obtain ⟨hp, gg, dd, tt, oo⟩ := s
  have M0 := J.type (M := model prog w); have M1 := looks_findIn (M := model prog w) KX hga
  have M2 := looks_findIn (M := model prog w) KX hgt; have M3 := looks_find (M := model prog w) KX J hfind
  have hisB : Looks (model prog w) hp (isInstance (.ref x) (.type "BaseException")) true := M0.andThen (looks_subIn KX hsub)
  have e0 : (false && onTheHeap (Value.builtin "BaseException.__getattribute__")) = false := rfl
  have e2 : (Value.builtin "BaseException.__getattribute__" == Value.builtin "object.__getattribute__") = false := by decide +kernel
  have e1 : (onTheHeap (Value.ref D) && Value.builtin "BaseException.__getattribute__" == Value.builtin "object.__getattribute__") = false := by rw [e2] <;> rfl
  unfold getAttr? getAttrBy? getAttrBy
  refine wpAny_bind (wpAny_mkText (wpAny_bind (wpAny_attempt (wpAny_holding (wpAny_bind (M0.at (wpAny_bind (M1.at ?_))))))))
  show wpAny _ _ (if (onTheHeap (Value.ref D) && Value.builtin "BaseException.__getattribute__" == Value.builtin "object.__getattribute__") = true then _ else _) _ _ _
  rw [e1, if_neg Bool.false_ne_true]; unfold getAttrByItsOwn hookBefore
  refine wpAny_bind ?_
  rw [if_pos (show onTheHeap (Value.ref D) = true from rfl)]; refine M2.at ?_
  refine wpAny_bind (wpAny_attempt (wpAny_holding ?_)); unfold callGetattribute
  rw [e0, if_neg Bool.false_ne_true]; unfold boundAndCalled
  rw [PySem.F.excAttr_ValueError.ga.bind (.ref x)]; refine wpAny_bind (wpAny_pure ?_)
  show wpAny _ _ (call (.builtin "BaseException.__getattribute__") [.ref x, .str "__class__" tt]) _ _ _
  refine wpAny_call (codeAny_call_builtin PySem.F.excAttr_ValueError.ga.plain PySem.F.entry_bexc_ga ?_)
  refine @check_slot (model prog w) _ _ ⟨hp, gg, dd, tt + 1, oo⟩ "BaseException.__getattribute__" "BaseException" "__getattribute__" (.ref x) [.str "__class__" tt] [] _ (by decide +kernel) (by decide +kernel) hisB (PySem.F.args_bexc_ga (.ref x) (.str "__class__" tt)) ?_
  unfold Builtin.«object.__getattribute__»
  refine wpAny_bind (wpAny_of_eq (a := ((Value.ref x : Value), [Value.str "__class__" tt])) (by first | rfl | (simp only [slotArgs]; rfl)) ?_)
  refine wpAny_bind (wpAny_pure (wpAny_bind (M0.at (wpAny_bind (M3.at ?_)))))
  show wpAny _ _ (holding [Value.builtin "object.__class__"] (call (.builtin "getset_descriptor.__get__") [.builtin "object.__class__", .ref x, .ref D]) >>= ret) _ _ _
  refine wpAny_bind (wpAny_holding (wpAny_call (class_get (s := ⟨hp, gg, dd, tt + 1, oo⟩) (ox := ox) (od := od) KX J hm ?_))); refine wpAny_pure ?_
  show wpAny _ _ (handedOut (.ref D)) _ _ _
  rw [handedOut_of (v := .ref D) rfl]
  first | exact wpAny_pure (wpAny_pure hq) | exact wpAny_pure hq | exact wpAny_pure (wpAny_bind (wpAny_pure (wpAny_pure hq)))
theorem fs_kitx (hga : findIn K (.ref D) "__getattribute__" = some (some (.builtin "BaseException.__getattribute__"))) (hgt : findIn K (.ref D) "__getattr__" = some none) (hsub : subIn K (.ref D) (.type "BaseException") = some true) (hdct : hasDictIn K D = true) (ha : findIn K (.ref D) "__class__" = some (some (.builtin "object.__class__")))
    (hn : specialIn K (.builtin "object.__class__") "__get__" = some (some (.builtin "getset_descriptor.__get__"))) (htk : takesIn K (.builtin "object.__class__") = some true) (hm : mroIn K D (.type "object") = some true) :
    KitX K (.ref x) (.ref D) (fun h => ∃ ox od, InstAt h x ox D od) where
  ty := fun _ _ _ ⟨_, _, J⟩ => J.type
  it := fun _ _ KX _ => by
    obtain ⟨cc, hcc, _⟩ := any_some hdct
    unfold clsIn at hcc
    split at hcc
    · rename_i hlook
      intro A1 Q1 E1 s1 kk qq; unfold isType loadHead
      exact wpAny_bind (wpAny_loadPart (kk _ _ (KX _ _ hlook)) (wpAny_pure qq))
    · cases hcc
  ne := fun hh tp dd its nn sl KX htp => by
    obtain ⟨cc, hcc, _⟩ := any_some hdct
    refine Bool.eq_false_iff.mpr fun qq => ?_
    have eD : D = tp := Value.ref.inj (beq_iff_eq.mp qq)
    subst eD; unfold clsIn at hcc
    split at hcc
    · rename_i hlook
      have zz := (KX _ _ hlook).symm.trans htp; cases zz
    · cases hcc
  ca := fun KX ⟨_, _, J⟩ kk => fs_class hga hgt hsub hdct ha hn htk hm KX J kk
end
end PySem.W
namespace FS
open PySem PySem.Spec PyProof.Rows L2
/-! ### made -/
/-- C(e, ..) as a value, C's own __init__ keeping sp -/
def tMkV (C : Addr) (sp : Sp) (dvs : List V) (ta : TA) : TE := fun σ H Q => ta σ H fun vs H1 => vs.length ≤ 1000 ∧ ∀ a, H1 a = none →
  sp (.ref a :: (vs ++ dvs)) (upd H1 a (exo a C none)) (fun v H2 => v = .non ∧ Q (.ref a) H2) (fun _ _ _ => False)
section
variable {X : Cx} {e : Expr} {es : List Expr} {te : TE} {ta : TA} {p pos : Pos}
theorem pe_mkV {CX : CXT} {x : Str} {C fI : Addr} {k : Nat} {fd : FuncData} {ps : List Str} {sp : Sp} {ds : List Value} {dvs : List V} (T : OexC X.K C) (iC : PySem.W.findIn X.K (.ref C) "__init__" = some (some (.ref fI))) (tI : PySem.W.typeIn X.K (.ref fI) = some (.type "function"))
    (F1 : FnOk X.prog X.w X.K X.mg X.base CX k fI fd ps sp) (hr : Room (k + 1) X.A) (hb : Binds X.K fd ps ds) (hd : Vals dvs ds) (hx : Passes CX X (fun _ _ _ => False)) (hg : Gl X x) (hm : X.mg x = some (.ref C)) (ha : PA X (e :: es) ta)
    (hdb : (x == ("__debug__" : Str)) = false := by decide) (he : starEach (e :: es) X.env = (false, eval e X.env) :: starEach es X.env := by rfl) (hpl : (backTo pos (starEach es X.env)).any (·.1) = false := by rfl) :
    PE X (.Call (.Name x p) (e :: es) [] pos) (tMkV C sp dvs ta) := by
  refine ⟨fun pins st0 σ H Q I h => ?_⟩
  obtain ⟨nm, q, N, bs, bm, sn, sub, ab, col, dd, k0, k1, k2, k3, k5, hC, hbm⟩ := T.cls
  refine wpAny_Call_Name_kw (ld_glob I hg hm ?_ hdb)
  refine PySem.W.callWith_K (h₀ := X.base) I.ok.mod.kin T.kC (thn (ha.run pos pins st0 σ H _ I h) fun us s1 ⟨vs, H1, I1, r1, hz, q1⟩ => ⟨I1.kIn, ?_⟩) he hpl
  show wpAny _ _ (call (.ref C) us) _ _ _
  obtain ⟨hp, g, dr, tk, os⟩ := s1
  have hsz1 : hp.objs.size ≤ hp.objs.size + 1 := Nat.le_succ _
  have hn1 : H1 (hp.objs.size + 1) = none := I1.hok.fresh hsz1
  have hq1 := q1 (hp.objs.size + 1) hn1
  have kk1 : ∀ b o, hp.get? b = some o → ((hp.push (PySem.W.kdv_tup us)).push (PySem.HandSPX.excO C hp.objs.size)).get? b = some o := fun b o eo => Heap.get?_push_of_some _ (Heap.get?_push_of_some _ eo)
  have hget1 : ((hp.push (PySem.W.kdv_tup us)).push (PySem.HandSPX.excO C hp.objs.size)).get? (hp.objs.size + 1) = some (PySem.HandSPX.excO C hp.objs.size) := by heap_get
  have J2 : Inv X pins σ (upd H1 (hp.objs.size + 1) (exo (hp.objs.size + 1) C none)) ⟨(hp.push (PySem.W.kdv_tup us)).push (PySem.HandSPX.excO C hp.objs.size), g, dr, tk, os⟩ :=
    I1.laid (t' := tk) (a := hp.objs.size + 1) (o := exo (hp.objs.size + 1) C none) (h' := (hp.push (PySem.W.kdv_tup us)).push (PySem.HandSPX.excO C hp.objs.size)) kk1 hsz1 (exo_ok hget1)
  have rr2 : Vals (V.ref (hp.objs.size + 1) :: (vs ++ dvs)) (Value.ref (hp.objs.size + 1) :: (us ++ ds)) := .cons rfl (r1.append hd)
  have hl1 : (Value.ref (hp.objs.size + 1) :: us ++ ds).length = ps.length := by
    have e9 := rr2.length
    rw [F1.len _ _ _ _ hq1] at e9; exact e9.symm
  have hus1 : us.length ≤ sizeLine := by
    rw [← Paired.length r1, sizeLine_eq]; omega
  refine wpAny_call (PySem.HandSPX.call_own F.excBase_ValueError (fun Y => PySem.HandSPX.refsVE_contains Y bm hbm) (I1.kIn _ _ hC) (PySem.W.looks_findIn I1.kIn iC) (fun self => PySem.W.bind_fn I1.kIn self tI) hus1
    (codeAny_mono (F1.run _ X.stack _ _ ⟨Value.ref (hp.objs.size + 1) :: us, []⟩ (Value.ref (hp.objs.size + 1) :: (us ++ ds)) _ _ (fun _ _ _ => False) (hr.make C us []) (J2.env0.make C us []) (hb _ (Value.ref (hp.objs.size + 1) :: us) J2.kIn hl1) rr2 hq1) fun r s' hq' => ?_))
  cases r with
  | error er => exact hx pins σ _ _ er s' J2 hq'
  | ok fl =>
    cases fl with
    | ret u =>
      obtain ⟨v, H2, os2, bare2, un2, hok2, rv, ev, q2⟩ := hq'
      subst ev
      exact ⟨rv, .ref (hp.objs.size + 1), H2, J2.call' (ch := []) os2 un2 hok2 bare2 (fun b z => absurd z (by simp)), rfl, q2⟩
    | next => exact False.elim hq'
    | brk => exact False.elim hq'
    | cont => exact False.elim hq'
/-! ### read -/
def tXo (K : PySem.W.Frag) (f : Str) (te : TE) : TE := fun σ H Q => te σ H fun x H1 => ∃ (a C dd : Addr) (fs : List (Str × V)) (v : V), x = .ref a ∧ H1 a = some (exo a C (some dd)) ∧ H1 dd = some (exd dd fs) ∧ XfC K C ∧ PySem.W.findIn K (.ref C) f = some none ∧ fs.lookup f = some v ∧ Q v H1
theorem pe_xo {n : Str} (he : PE X e te) (hb : attributeBase e n X.env (eval e X.env) = eval e X.env := by rfl) : PE X (.Attribute e n pos) (tXo X.K n te) := by
  refine ⟨fun pins s σ H Q I h => ?_⟩
  refine attr_of hb (thn (he.run pins s σ H _ I h) fun u s1 hh => ?_)
  obtain ⟨x, H1, I1, rx, a, C, dd, fs, v, ex, ea, ed, T, hno, l, q⟩ := hh
  subst ex
  obtain rfl : u = Value.ref a := rx
  obtain ⟨t1, ho⟩ := exo_at I1.hok ea
  obtain ⟨mA, hns, hr⟩ := exd_at I1.hok ed
  obtain ⟨od, hod, hl⟩ := lookIn_ns hns
  obtain ⟨u, hu, ru⟩ := RelO.some_of (v := v) (o := mA n) (by rw [← l]; exact hr n)
  have J : PySem.W.InstAt s1.heap a { cls := .ref C, dict := some dd, data := .fields #[.ref t1, .none, .none, .none, .bool false, .none] } C (some od) := ⟨ho, rfl, rfl, hod⟩
  exact HandSPX.exc_get I1.kIn J T.ga T.gg T.exC (PySem.W.findObj_own T.hdC hno rfl (by rw [hl, hu])) (handed_of ru) ⟨v, H1, I1.tok _, ru, q⟩
end
/-! ### isinstance -/
def rIsO (K : PySem.W.Frag) : List V → Hp → VK → Prop := fun xs H Q => ∃ (a C d : Addr) (fs : List (Str × V)) (c : V) (cv : Value) (b : Bool), xs = [.ref a, c] ∧ H a = some (exo a C (some d)) ∧ H d = some (exd d fs) ∧ ExcC K C ∧ (∀ u, RelV c u → u = cv) ∧ PySem.W.kitOne K (.ref C) cv = some b ∧ Q (.bl b) H
theorem call_isO {X : Cx} : CallR X (.builtin "isinstance") (rIsO X.K) := by
  intro pins s σ H xs us Q I r h
  obtain ⟨a, C, d, fs, c, cv, b, rfl, ea, ed, T, hcv, e, q⟩ := h
  obtain ⟨u1, u2, rfl, r1, r2⟩ := vals2 r
  cases (show u1 = Value.ref a from r1)
  have ec := hcv _ r2
  subst ec
  obtain ⟨t1, ho⟩ := exo_at I.hok ea
  obtain ⟨mA, hns, hr⟩ := exd_at I.hok ed
  obtain ⟨od, hod, hl⟩ := lookIn_ns hns
  have J : PySem.W.InstAt s.heap a { cls := .ref C, dict := some d, data := .fields #[.ref t1, .none, .none, .none, .bool false, .none] } C (some od) := ⟨ho, rfl, rfl, hod⟩
  exact PySem.W.kia_one (PySem.W.fs_kitx T.hg T.hk T.hs T.hd T.ha T.hn T.ht T.hm) I.kIn ⟨_, _, J⟩ e (fun z => nomatch z) fun tk => ⟨.bl b, H, I.tok tk, rfl, q⟩
/-! ### repr of a list of plain values (an empty dict among them, not deeper) -/
inductive Dq (K : PySem.W.Frag) (H : Hp) : V → PyData → Prop
  | dp {v : V} {d : PyData} : Dp K H v d → d.hasDict = false → Dq K H v d
  | emp {a : Addr} : H a = some (.dK []) → Dq K H (.ref a) (.dict [])
inductive DqAll (K : PySem.W.Frag) (H : Hp) : List V → List PyData → Prop
  | nil : DqAll K H [] []
  | cons {v : V} {vs : List V} {d : PyData} {ds : List PyData} : Dq K H v d → DqAll K H vs ds → DqAll K H (v :: vs) (d :: ds)
section
variable {X : Cx} {pins : List (Addr × Obj)} {σ : L2.St} {H : Hp} {s : Shared}
theorem Dq.repr (I : Inv X pins σ H s) {v : V} {d : PyData} {u : Value} (h : Dq X.K H v d) (r : RelV v u) (hs : d.showable = true) (hz : d.shown.length ≤ sizeLine) :
    ∃ as bs, Reads s.heap u d as ∧ ReadAtMost s.heap d.depth bs ∧ ReprK X.prog X.w bs s.heap d.depth u d.shown := by
  cases h with
  | dp h hd =>
    obtain ⟨as, rd⟩ := Dp.reads I d v u h r
    obtain ⟨bs, h1, h2⟩ := ReprK.of_reads (prog := X.prog) (w := X.w) rd hs (PyData.noDict_hsm hd) hz
    exact ⟨as, bs, rd, h1, h2⟩
  | @emp a ea =>
    cases (show u = Value.ref a from r)
    obtain ⟨_, hsm, vs, kv, o, es, ep, h1, h2, h3, _, h4, _⟩ := (show ObjOk X.prog X.w H s.heap a (.dK []) from I.hok a _ ea)
    cases kv
    have e0 : es.toList = [] := by
      cases hq : es.toList with
      | nil => rfl
      | cons x xs =>
        rw [hq] at h4
        first | exact absurd h4 (by simp [Pairs]) | cases h4
    have rd : Reads s.heap (.ref a) (.dict []) (a :: [] ++ []) := .dict (kvs := []) h1 h2.1 h3 (by rw [e0]; exact .nil) (by rw [e0]; exact .nil)
    obtain ⟨bs, q1, q2⟩ := ReprK.of_reads (prog := X.prog) (w := X.w) rd hs (fun _ hm => by
      have : sysModules = a := by simpa using hm
      rw [this] at hsm
      simp at hsm) hz
    exact ⟨_, bs, rd, q1, q2⟩
theorem DqAll.repr (I : Inv X pins σ H s) : ∀ {vs : List V} {ds : List PyData} {us : List Value}, DqAll X.K H vs ds → Vals vs us → PyData.showableAll ds = true → (∀ t ∈ PyData.shownAll ds, t.length ≤ sizeLine) →
    ∃ as bs, ReadsAll s.heap us ds as ∧ ReadAtMost s.heap (PyData.depthAll ds) bs ∧ ReprAllK X.prog X.w bs s.heap (PyData.depthAll ds) us (PyData.shownAll ds)
  | _, _, _, .nil, .nil, _, _ => ⟨[], [], .nil, (fun _ h => nomatch h), by simp only [PyData.shownAll]; exact .nil⟩
  | _, _, _, .cons (d := d) (ds := ds) h hl, .cons r rl, hs, hz => by
    have hs2 : d.showable = true ∧ PyData.showableAll ds = true := by simpa [PyData.showableAll] using hs
    obtain ⟨a1, c1, rd1, q1, k1⟩ := Dq.repr I h r hs2.1 (hz _ (by simp only [PyData.shownAll]; exact List.mem_cons_self ..))
    obtain ⟨a2, c2, rd2, q2, k2⟩ := DqAll.repr I hl rl hs2.2 (fun t ht => hz t (by simp only [PyData.shownAll]; exact List.mem_cons_of_mem _ ht))
    refine ⟨_, c1 ++ c2, .cons rd1 rd2, ?_, ?_⟩
    · simp only [PyData.depthAll]
      exact (q1.mono (Nat.le_max_left _ _)).append (q2.mono (Nat.le_max_right _ _))
    · simp only [PyData.depthAll, PyData.shownAll]
      exact .cons ((k1.more fun b hb => List.mem_append_left _ hb).level_le (Nat.le_max_left _ _)) (k2.more_le (fun b hb => List.mem_append_right _ hb) (Nat.le_max_right _ _))
end
def rReprL (K : PySem.W.Frag) : List V → Hp → VK → Prop := fun xs H Q => ∃ (a : Addr) (v : V) (vs : List V) (ds : List PyData), xs = [.ref a] ∧ H a = some (.lst (v :: vs)) ∧ DqAll K H (v :: vs) ds ∧ PyData.showableAll ds = true ∧ PyData.depthAll ds ≤ 30 ∧
  (listText (PyData.shownAll ds)).length ≤ sizeLine ∧ Q (.str (listText (PyData.shownAll ds))) H
theorem call_reprL {X : Cx} (hg : X.A.guards = some []) (hu : X.A.units + 64 < cLine) : CallR X (.builtin "repr") (rReprL X.K) := by
  intro pins s σ H xs us Q I r h
  obtain ⟨a, v, vs, ds, rfl, ea, hd, hs, hdep, hz, q⟩ := h
  cases r with
  | cons ra rn =>
    cases rn
    rename_i u1
    cases (show u1 = Value.ref a from ra)
    obtain ⟨_, its, n, rv, ho⟩ := (show ObjOk X.prog X.w H s.heap a (.lst (v :: vs)) from I.hok a _ ea)
    cases rv with
    | @cons _ u _ ul r1 r2 =>
      obtain ⟨as, bs, rd, hb, hk⟩ := DqAll.repr I hd (.cons r1 r2) hs (fun t ht => Nat.le_trans (listText_mem_le ht) hz)
      have rr : Reads s.heap (.ref a) (.list ds) (a :: as) := .list ho rfl rfl rd
      have hna : a ∉ bs := not_mem_of_deeper rr (by simp only [PyData.depth]; omega) hb
      refine call_repr_slot (by omega) ⟨_, ho, rfl⟩ F.slot_list_repr.toG ?_
      exact call_list_reprK ho rfl rfl hna (by simpa using hk.length_eq) (fun i y e => hk.item i y (by simpa using e)) hg (fun b _ => Clear.nil b) (by show X.A.units + 1 + _ < cLine; omega) (fun _ _ e => e)
        (fun h' t tk hk' => ⟨_, _, rfl, .str (listText (PyData.shownAll ds)), H, I.kept (t' := tk) hk', ⟨_, rfl⟩, q⟩) hz
end FS

set_option Elab.async false
set_option linter.all false
set_option maxRecDepth 100000
set_option maxHeartbeats 4000000
/-! The law's own def is called where no guard stands: its promise may use that (repr of lists asks it). -/
namespace FS
open PySem PySem.Spec PyProof.Rows L2
structure FnG (P : Program) (w : World) (K : PySem.W.Frag) (mg : Str → Option Value) (base : Heap) (k : Nat) (f : Addr) (fd : FuncData) (ps : List Str) (sp : Sp) : Prop where
  len : ∀ vs H Q E, sp vs H Q E → vs.length = ps.length
  run : ∀ (A : Around) (out1 : List Env) (st1 : Shared) (H : Hp) (args : Args) (us : List Value) (vs : List V) (Q : VK) (E : XK), A.guards = some [] → Room k A → Env0 P w K mg base A out1 st1 H → BindsTo st1 fd args (ps.zip us) → Vals vs us → sp vs H Q E →
    codeAny (model P w) A (.call (.ref f) args) (CR CX0 out1 P w H st1 Q E) st1
section
variable {P : Program} {w : World} {K : PySem.W.Frag} {mg : Str → Option Value} {base : Heap}
theorem okG {x qual : Str} {st : Stmt} {f : Addr} {fd : FuncData} {N ps : List Str} {k : Nat} {sp : Sp} (F : Fun K x qual st f fd) (S : FnScope N ps (defScope st)) (hlen : ∀ vs H Q E, sp vs H Q E → vs.length = ps.length)
    (hbd : ∀ (cdv : Value) (A : Around) (out1 : List Env) (st1 : Shared) (H : Hp) (vs : List V) (Q : VK) (E : XK), (A.deeper (envOfC qual (defScope st) st1.heap.objs.size f cdv)).guards = some [] → Room k (A.deeper (envOfC qual (defScope st) st1.heap.objs.size f cdv)) → sp vs H Q E →
      ∃ t, PSs (cxOf CX0 P w K mg base N qual (defScope st) f cdv A out1 st1 H E).nox (defBody st) t ∧ t { nx := fun _ H' => Q .non H', rt := Q } (start N vs) H) : FnG P w K mg base (k + 1) f fd ps sp := by
  obtain ⟨oc, od, kV, doc, pm, an, cdv, ct, osl, rfl, lk, hcd⟩ := F.ex
  refine ⟨hlen, fun A out1 st1 H args us vs Q E hgd hr1 en0 hb1 rv1 hsp1 => ?_⟩
  have hl1 := hlen _ _ _ _ hsp1
  have KX1 : K.In st1.heap := en0.mod.kin.keeps fun b1 o1 e1 => (en0.bs b1 o1 e1).1
  have lim1 : st1.heap.NoLimit := en0.mod.nolimit.keeps fun b1 o1 e1 => (en0.bs b1 o1 e1).1
  have hknd : ∀ y1 ∈ ps.zip us, (defScope st).names.lookup y1.1 = some .local ∨ ((defScope st).names.lookup y1.1 = some .cell ∧ ((cellsFrom (st1.heap.objs.size + 1) (defScope st).names []).lookup y1.1).isSome = true) := fun ⟨n1, v1⟩ hy1 => by
    rcases S.par n1 (List.of_mem_zip hy1).1 with q1 | q1
    · exact .inl q1
    · exact .inr ⟨q1, PySem.W.cellsFrom_some _ _ _ (.inl q1)⟩
  refine codeAny_call_function hr1.depth (KX1 _ _ lk) rfl S.co S.gen rfl (PySem.W.codeRec_of KX1 hcd) (hb1 _ _ _ _ ?_)
  refine wpAny_newFunctionEnv_cells S.kind hknd fun env1 he1 st2 x1 => ?_
  subst he1; refine ⟨lim1.keeps x1.toInCall.keep, codeAny_func ?_⟩
  obtain ⟨t, ht0, hq1⟩ := hbd cdv A out1 st1 H vs Q E hgd (hr1.deeper _) hsp1
  have ht := ht0.nox
  have I1 : Inv (cxOf CX0 P w K mg base N qual (defScope st) f cdv A out1 st1 H E) [] (start N vs) H st2 := inv_start S hr1.hd en0 hl1 rv1 x1
  refine wpAny_mono (ht.run [] st2 (start N vs) H _ I1 hq1) (fun fl st3 hs1 => ?_) fun _ st3 hs1 => hs1
  have done1 : ∀ {σ1 : L2.St} {H1 : Hp} {v : V} {u : Value}, Inv (cxOf CX0 P w K mg base N qual (defScope st) f cdv A out1 st1 H E) [] σ1 H1 st3 → RelV v u → Q v H1 → CE out1 P w H st1 Q u st3 :=
    fun {σ1 H1 v u} J1 rv q1 => ⟨v, H1, J1.os, J1.bare, J1.base, J1.hok, rv, q1⟩
  cases fl with
  | ret u => obtain ⟨v, σ1, H1, J1, rv, q1⟩ := hs1; exact done1 J1 rv q1
  | next => obtain ⟨σ1, H1, J1, q1⟩ := hs1; exact done1 (v := V.non) (u := Value.none) J1 rfl q1
  | brk => obtain ⟨_, _, _, q1⟩ := hs1; exact False.elim q1
  | cont => obtain ⟨_, _, _, q1⟩ := hs1; exact False.elim q1
theorem law_callG {mb : Str → Option Value} {k : Nat} {fa a : Addr} {fd : FuncData} {x : Str} {sp : Sp} {st1 : Shared} {vs : List Value} {ns : List Int}
    (KX : K.In st1.heap) (hns : st1.heap.Ns mainGlobals mg) (hbl : st1.heap.Ns builtinsNs mb) (hbb : ∀ x : Str, x ≠ "__name__" → mb x = bootBuiltins x) (hlim : st1.heap.NoLimit) (hgn : st1.gens = #[])
    (hat : st1.heap.get? a = some { cls := .type "list", data := .seq vs.toArray }) (hi : IntsAre vs ns) (hl : ns.length ≤ sizeLine) (hr1 : Room k callerA)
    (F : ∀ base : Heap, K.In base → base.Ns mainGlobals mg → FnG P w K mg base k fa fd [x] sp) (hbind : ∀ (s : Shared) (u : Value), BindsTo s fd ⟨[u], []⟩ [(x, u)])
    (hsp1 : ∀ H : Hp, Only H → SqL K H a (ns.map V.int) → sp [.ref a] H (fun v _ => v = .bl true) fun _ _ _ => False) :
    codeAny (model P w) callerA (.call (.ref fa) ⟨[.ref a], []⟩) (fun r s' => r = .ok (.ret (.bool true)) ∧ OldK st1.heap s'.heap ∧ s'.os = st1.os ∧ AllBare s'.gens) st1 := by
  have rv1 := vals_ints hi
  have lenV1 := hi.length
  have core1 : ∀ H : Hp, Only H → SqL K H a (ns.map V.int) → HOk P w H st1.heap → (∀ b1, H b1 ≠ none → b1 = a) → (H a ≠ none → K.lookup a = none) →
      codeAny (model P w) callerA (.call (.ref fa) ⟨[.ref a], []⟩) (fun r s' => r = .ok (.ret (.bool true)) ∧ OldK st1.heap s'.heap ∧ s'.os = st1.os ∧ AllBare s'.gens) st1 := by
    intro H hO1 hS1 hok1 hA1 hK1
    have base1 : ∀ {b1 : Addr} {o1 : Obj}, st1.heap.get? b1 = some o1 → H b1 = none → (hidT st1.heap H).get? b1 = some o1 := fun e1 n1 => hidT_get e1 n1
    have noA1 : ∀ {b1 : Addr} {o1 : Obj} {es1 : Array DictEntry} {ep1 : Nat}, st1.heap.get? b1 = some o1 → o1.data = .dict es1 ep1 → H b1 = none := fun {b1 o1 es1 ep1} e1 d1 => by
      cases q1 : H b1 with
      | none => rfl
      | some u1 =>
        have e2 : b1 = a := hA1 b1 (by rw [q1]; simp)
        subst e2; rw [hat] at e1; cases e1
        have d2 : Data.seq vs.toArray _ = Data.dict es1 ep1 := d1
        cases d2
    have nsK1 : ∀ {b1 : Addr} {m : Str → Option Value}, st1.heap.Ns b1 m → (hidT st1.heap H).Ns b1 m := fun {b1 m} ⟨o1, es1, ep1, e1, d1, r1⟩ => ⟨o1, es1, ep1, base1 e1 (noA1 e1 d1), d1, r1⟩
    have hKb1 : K.In (hidT st1.heap H) := fun b1 o1 e1 => base1 (KX b1 o1 e1) (by
      cases q1 : H b1 with
      | none => rfl
      | some u1 =>
        have e2 : b1 = a := hA1 b1 (by rw [q1]; simp)
        subst e2; rw [hK1 (by rw [q1]; simp)] at e1; cases e1)
    have hM1 : Mod K mg (hidT st1.heap H) := ⟨hKb1, nsK1 hns, ⟨mb, nsK1 hbl, hbb⟩, let ⟨mc, h1, h2⟩ := hlim; ⟨mc, nsK1 h1, h2⟩⟩
    have en0 : Env0 P w K mg (hidT st1.heap H) callerA [] st1 H := ⟨rfl, hM1, fun b1 o1 e1 => of_hidT e1, Nat.le_of_eq (hidT_size _ _), trivial, fun b1 hb1 => absurd (show b1 ∈ ([] : List Addr) from hb1) (by simp), hok1, .of_eq hgn⟩
    refine codeAny_mono ((F _ hKb1 (nsK1 hns)).run callerA [] st1 H ⟨[.ref a], []⟩ [.ref a] [.ref a] _ _ rfl hr1 en0 (hbind st1 (.ref a)) (.cons rfl .nil) (hsp1 H hO1 hS1)) fun r s' h1 => ?_
    cases r with
    | error e1 => exact False.elim h1
    | ok fl =>
      cases fl with
      | next => exact False.elim h1
      | brk => exact False.elim h1
      | cont => exact False.elim h1
      | ret u1 =>
        obtain ⟨v1, H1, os1, bare1, un1, hok2, r1, q1⟩ := h1
        have q2 : v1 = .bl true := q1
        subst q2; obtain rfl : u1 = Value.bool true := r1
        refine ⟨rfl, OldK.of_keep fun b1 o1 e1 => ?_, os1, bare1⟩
        cases q3 : H b1 with
        | none => exact un1.keep b1 o1 e1 q3 (by intro z; exact absurd (show b1 ∈ ([] : List Addr) from z) (by simp)) (by simp)
        | some u2 =>
          rcases hO1 b1 with z1 | ⟨ob1, xs1, z1⟩
          · rw [q3] at z1; cases z1
          · have z2 := un1.frzs b1 ob1 _ z1
            obtain ⟨e3, _⟩ := hok1 b1 _ z1; obtain ⟨e4, _⟩ := hok2 b1 _ z2
            rw [e1] at e3; cases e3; exact e4
  cases hk1 : K.lookup a with
  | some o1 =>
    have e1 := KX a o1 hk1
    rw [hat] at e1; cases e1
    refine core1 (fun _ => none) (fun _ => .inl rfl) (.inr ⟨_, vs.toArray, _, hk1, rfl, rfl, rfl, by rw [List.size_toArray, lenV1]; exact hl, by simpa using rv1⟩) (fun b1 u1 z1 => by have z2 : (none : Option HO) = some u1 := z1; cases z2) (fun b1 z1 => absurd rfl z1) fun z1 => absurd rfl z1
  | none =>
    refine core1 (fun b1 => if b1 = a then some (.frz { cls := .type "list", data := .seq vs.toArray } (.lst (ns.map V.int))) else none) (fun b1 => ?_) (.inl (.inr ⟨{ cls := .type "list", data := .seq vs.toArray }, if_pos rfl⟩)) (fun b1 u1 z1 => ?_) (fun b1 z1 => ?_) fun _ => hk1
    · by_cases hb1 : b1 = a
      · exact .inr ⟨_, _, if_pos hb1⟩
      · exact .inl (if_neg hb1)
    · by_cases hb1 : b1 = a
      · have z2 := (if_pos hb1).symm.trans z1
        cases z2; subst hb1
        exact ⟨hat, by rw [List.length_map]; exact hl, vs, _, rv1, hat⟩
      · have z2 := (if_neg hb1).symm.trans z1
        cases z2
    · by_cases hb1 : b1 = a
      · exact hb1
      · exact absurd (if_neg hb1) z1
end
theorem walk_G {l : PySem.W.OpenLaw} {n k : Nat} {qp : Program} {loose : List Str} {XP : (Str → Option Value) → Heap → Prop} {YP : World → Heap → Prop} {dr : DefRec} {KK : Params → PySem.W.Frag} {sp : World → Sp} {x : Str}
    (hn : l.most = some n) (hn2 : n ≤ sizeLine) (hdf : dr.params.defaults = []) (hr1 : Room k callerA) (hY : ∀ (w : World) (h : Heap), YP w h → (KK w.params).In h)
    (F : ∀ (w : World) (mg : Str → Option Value) (fa : Addr) (h : Heap), (KK w.params).In h → h.Ns mainGlobals mg → mg dr.name = some (.ref fa) →
      ∃ fd : FuncData, (∀ (s : Shared) (u : Value), BindsTo s fd ⟨[u], []⟩ [(x, u)]) ∧ ∀ base : Heap, (KK w.params).In base → base.Ns mainGlobals mg → FnG l.prog w (KK w.params) mg base k fa fd [x] (sp w))
    (hsp1 : ∀ (w : World) (H : Hp) (a : Addr) (ns : List Int), ns.length ≤ n → Only H → SqL (KK w.params) H a (ns.map V.int) → sp w [.ref a] H (fun v _ => v = .bl true) fun _ _ _ => False) :
    PySem.W.WalkO qp loose XP YP l.row.toRowW dr [] (fun f vs => PySem.call f vs) := by
  refine Att.attach_call hn hdf fun w s0 st1 mg mb fa o pm cd doc a vs ns G Y ho hd hcd hmg hobj hints hlen hgn => ?_
  have KX1 := hY w _ Y
  obtain ⟨fd, hb1, hF1⟩ := F w mg fa _ KX1 G.T.g hmg
  exact law_callG KX1 G.T.g G.T.b G.T.builtins G.T.nolimit hgn hobj hints (Nat.le_trans hlen hn2) hr1 hF1 hb1 (fun H hO1 hS1 => hsp1 w H a ns hlen hO1 hS1)
end FS

set_option Elab.async false
set_option linter.all false
set_option maxRecDepth 100000
set_option maxHeartbeats 4000000
/-! What both laws on errors use: an error's class, a made error, plain values that repr shows, isinstance over a list of errors. -/
namespace FS
open PySem PySem.Spec PyProof.Rows L2
/-! ### heaps -/
theorem same_new {H : Hp} {p : Addr} {o : HO} (h : H p = none) : Same H (upd H p o) := fun b x e => by
  rw [upd_ne (ne_of_none e h)]; exact e
/-- all but p as it was -/
def Off (p : Addr) (H H' : Hp) : Prop := ∀ b o, b ≠ p → H b = some o → H' b = some o
theorem Off.of {p : Addr} {H H' : Hp} (h : Same H H') : Off p H H' := fun b o _ e => h b o e
theorem Off.trans {p : Addr} {H H1 H2 : Hp} (h : Off p H H1) (k : Off p H1 H2) : Off p H H2 := fun b o n e => k b o n (h b o n e)
theorem Off.put {p : Addr} {H : Hp} {o : HO} : Off p H (upd H p o) := fun b x n e => by rw [upd_ne n]; exact e
theorem Off.same {p : Addr} {H H1 H2 : Hp} (h : Same H H1) (hp : H p = none) (k : Off p H1 H2) : Same H H2 := fun b o e => k b o (ne_of_none e hp) (h b o e)
/-! ### plain values -/
mutual
theorem Dp_mono {K : PySem.W.Frag} {H H' : Hp} (s : Same H H') : ∀ (d : PyData) (v : V), Dp K H v d → Dp K H' v d
  | .none, _, h => by cases h; exact .non
  | .bool b, _, h => by cases h; exact .bl b
  | .int i, _, h => by cases h; exact .int i
  | .str x, _, h => by cases h; exact .str x
  | .list ds, _, h => by
    cases h with
    | lst hs ha => exact .lst (s.seq hs) (DpAll_mono s ds _ ha)
  | .tuple ds, _, h => by
    cases h with
    | tup hs ha =>
      refine .tup ?_ (DpAll_mono s ds _ ha)
      rcases hs with (h | ⟨o, h⟩) | h
      · exact .inl (.inl (s _ _ h))
      · exact .inl (.inr ⟨o, s _ _ h⟩)
      · exact .inr h
  | .dict _, _, h => by cases h
theorem DpAll_mono {K : PySem.W.Frag} {H H' : Hp} (s : Same H H') : ∀ (ds : List PyData) (vs : List V), DpAll K H vs ds → DpAll K H' vs ds
  | [], _, h => by cases h; exact .nil
  | d :: ds, _, h => by
    cases h with
    | cons h1 h2 => exact .cons (Dp_mono s d _ h1) (DpAll_mono s ds _ h2)
end
/-- a value that repr shows shortly -/
def Nice (K : PySem.W.Frag) (H : Hp) (v : V) (d : PyData) : Prop := Dq K H v d ∧ d.showable = true ∧ d.depth ≤ 5 ∧ d.shown.length ≤ 40
theorem Dq_mono {K : PySem.W.Frag} {H H' : Hp} {v : V} {d : PyData} (s : Same H H') (h : Dq K H v d) : Dq K H' v d := by
  cases h with
  | dp h hd => exact .dp (Dp_mono s d v h) hd
  | emp h => exact .emp (s _ _ h)
theorem Nice.mono {K : PySem.W.Frag} {H H' : Hp} {v : V} {d : PyData} (s : Same H H') (h : Nice K H v d) : Nice K H' v d := ⟨Dq_mono s h.1, h.2⟩
inductive NiceAll (K : PySem.W.Frag) (H : Hp) : List V → List PyData → Prop
  | nil : NiceAll K H [] []
  | cons {v : V} {vs : List V} {d : PyData} {ds : List PyData} : Nice K H v d → NiceAll K H vs ds → NiceAll K H (v :: vs) (d :: ds)
theorem NiceAll.dq {K : PySem.W.Frag} {H : Hp} : ∀ {vs : List V} {ds : List PyData}, NiceAll K H vs ds → DqAll K H vs ds
  | _, _, .nil => .nil
  | _, _, .cons h t => .cons h.1 t.dq
theorem NiceAll.show {K : PySem.W.Frag} {H : Hp} : ∀ {vs : List V} {ds : List PyData}, NiceAll K H vs ds → PyData.showableAll ds = true
  | _, _, .nil => by simp [PyData.showableAll]
  | _, _, .cons h t => by simp only [PyData.showableAll, h.2.1, t.show, Bool.and_self]
theorem NiceAll.depth {K : PySem.W.Frag} {H : Hp} : ∀ {vs : List V} {ds : List PyData}, NiceAll K H vs ds → PyData.depthAll ds ≤ 30
  | _, _, .nil => by simp [PyData.depthAll]
  | _, _, .cons h t => by
    simp only [PyData.depthAll]
    have h1 := h.2.2.1
    have h2 := t.depth
    omega
theorem text_len : ∀ (ts : List Str) (k : Nat) (acc : Str), (∀ t ∈ ts, t.length ≤ 40) → (textFrom k acc ts).length ≤ acc.length + 42 * ts.length
  | [], k, acc, _ => Nat.le_refl _
  | t :: r, k, acc, h => by
    have h1 := h t (List.mem_cons_self ..)
    have h2 : (Str.ofString "").length = 0 := by decide
    have h3 : (Str.ofString ", ").length = 2 := by decide
    unfold textFrom
    refine Nat.le_trans (text_len r _ _ (fun x hx => h x (List.mem_cons_of_mem _ hx))) ?_
    rw [List.length_cons]
    repeat rw [strLen_append]
    split <;> omega
theorem NiceAll.len {K : PySem.W.Frag} {H : Hp} : ∀ {vs : List V} {ds : List PyData}, NiceAll K H vs ds → (PyData.shownAll ds).length = vs.length ∧ ∀ t ∈ PyData.shownAll ds, t.length ≤ 40
  | _, _, .nil => ⟨by simp [PyData.shownAll], fun t h => by simp [PyData.shownAll] at h⟩
  | _, _, .cons h t => by
    obtain ⟨h1, h2⟩ := t.len
    simp only [PyData.shownAll]
    refine ⟨by rw [List.length_cons, List.length_cons, h1], fun x hx => ?_⟩
    rcases List.mem_cons.mp hx with rfl | hx
    · exact h.2.2.2
    · exact h2 x hx
theorem NiceAll.size {K : PySem.W.Frag} {H : Hp} {vs : List V} {ds : List PyData} (h : NiceAll K H vs ds) (hv : vs.length ≤ 1000) : (listText (PyData.shownAll ds)).length ≤ sizeLine := by
  obtain ⟨h1, h2⟩ := h.len
  have h3 := text_len (PyData.shownAll ds) 0 "[" h2
  have h4 : (Str.ofString "[").length = 1 := by decide
  have h5 : (Str.ofString "]").length = 1 := by decide
  unfold listText
  rw [strLen_append, sizeLine_eq]
  rw [h1] at h3
  omega
end FS

set_option Elab.async false
set_option linter.all false
set_option maxRecDepth 100000
set_option maxHeartbeats 4000000
namespace FS
open PySem PySem.Spec PyProof.Rows L2
/-! ### an error's class -/
structure EC (K : PySem.W.Frag) (mg : Str → Option Value) (nm : Str) (C fI : Addr) : Prop where
  oex : OexC K C
  gC : mg nm = some (.ref C)
  iC : PySem.W.findIn K (.ref C) "__init__" = some (some (.ref fI))
  tI : PySem.W.typeIn K (.ref fI) = some (.type "function")
  xf : XfC K C
  ec : ExcC K C
theorem ec_mk {K : PySem.W.Frag} {h : Heap} {mg : Str → Option Value} (X : K.In h) (G : h.Ns mainGlobals mg) {nm : Str} {C fI : Addr} {n1 q : Str} {N : Addr} {bs bm : List Value} {sn : List Str} {sub : List Value} {ab : Bool} {col : Option Bool} {dd : Option Addr} {m0 m1 m2 m3 m5 : Option Value}
    (aC : PySem.W.nsIn K mainGlobals nm = some (some (.ref C))) (xL : K.lookup C = some (excClassObj n1 q C N bs bm true sn sub ab col dd m0 m1 m2 m3 m5 "ValueError.__new__")) (bmv : PySem.HandSPX.refsVE bm = true)
    (sa : PySem.W.findIn K (.ref C) "__setattr__" = some (some (.builtin "object.__setattr__"))) (ga : PySem.W.findIn K (.ref C) "__getattribute__" = some (some (.builtin "BaseException.__getattribute__"))) (gg : PySem.W.findIn K (.ref C) "__getattr__" = some none)
    (a1 : PySem.W.findIn K (.ref C) "__init__" = some (some (.ref fI))) (t1 : PySem.W.typeIn K (.ref fI) = some (.type "function")) (kC : PySem.W.keepIn K (.ref C) = true) (eC : PySem.W.subIn K (.ref C) (.type "BaseException") = some true)
    (tC : PySem.W.typeIn K (.ref C) = some (.type "type")) (hC : PySem.W.hasDictIn K C = true) (cC : PySem.W.findIn K (.ref C) "__class__" = some (some (.builtin "object.__class__"))) (mC : PySem.W.mroIn K C (.type "object") = some true)
    (hn : PySem.W.specialIn K (.builtin "object.__class__") "__get__" = some (some (.builtin "getset_descriptor.__get__"))) (ht : PySem.W.takesIn K (.builtin "object.__class__") = some true) : EC K mg nm C fI :=
  ⟨⟨⟨n1, q, N, bs, bm, sn, sub, ab, col, dd, m0, m1, m2, m3, m5, xL, bmv⟩, sa, eC, tC, kC⟩, PySem.W.mg_of X G aC, a1, t1, ⟨ga, gg, eC, hC⟩, ⟨ga, gg, eC, hC, cC, hn, ht, mC⟩⟩
/-- isinstance's answer over classes -/
theorem kit_own {K : PySem.W.Frag} {D C : Addr} {b : Bool} (hd : PySem.W.hasDictIn K C = true) (ty : PySem.W.typeIn K (.ref C) = some (.type "type")) (h : PySem.W.subIn K (.ref D) (.ref C) = some b) (hb : D = C → b = true) : PySem.W.kitOne K (.ref D) (.ref C) = some b := by
  unfold PySem.W.kitOne
  by_cases e : D = C
  · subst e
    rw [if_pos (by simp), hb rfl]
  · have ne : ((Value.ref D) == (Value.ref C)) = false := beq_eq_false_iff_ne.mpr fun q => e (Value.ref.inj q)
    rw [ne, if_neg Bool.false_ne_true]
    obtain ⟨cd, hc, _⟩ := PySem.W.any_some hd
    show (if ((PySem.W.clsIn K C).isSome && PySem.W.typeIn K (.ref C) == some (.type "type")) = true then PySem.W.subIn K (.ref D) (.ref C) else none) = some b
    rw [if_pos (by rw [hc, ty] <;> rfl)]
    exact h
theorem kit_ve {K : PySem.W.Frag} {D : Addr} {b : Bool} (h : PySem.W.subIn K (.ref D) (.type "ValueError") = some b) : PySem.W.kitOne K (.ref D) (.type "ValueError") = some b := by
  unfold PySem.W.kitOne
  have ne : ((Value.ref D) == (Value.type "ValueError")) = false := beq_eq_false_iff_ne.mpr fun q => nomatch q
  rw [ne, if_neg Bool.false_ne_true]
  show (if PySem.W.kitMeta "ValueError" = true then PySem.W.subIn K (.ref D) (.type "ValueError") else none) = some b
  rw [if_pos (by decide +kernel)]
  exact h
/-! ### an error made -/
def ErrAt (H : Hp) (a C : Addr) (fs : List (Str × V)) : Prop := ∃ d, H a = some (exo a C (some d)) ∧ H d = some (exd d fs)
theorem ErrAt.mono {H H' : Hp} {a C : Addr} {fs : List (Str × V)} (s : Same H H') (h : ErrAt H a C fs) : ErrAt H' a C fs := by
  obtain ⟨d, h1, h2⟩ := h
  exact ⟨d, s _ _ h1, s _ _ h2⟩
def spI1 (C : Addr) (f : Str) : Sp := fun vs H Q _ => ∃ (a : Addr) (v : V), vs = [.ref a, v] ∧ H a = some (exo a C none) ∧ ∀ H', Off a H H' → ErrAt H' a C [(f, v)] → Q .non H'
def spI2 (C : Addr) (f g : Str) : Sp := fun vs H Q _ => ∃ (a : Addr) (v u : V), vs = [.ref a, v, u] ∧ H a = some (exo a C none) ∧ ∀ H', Off a H H' → ErrAt H' a C [(g, u), (f, v)] → Q .non H'
def spI3 (C : Addr) (f g i : Str) : Sp := fun vs H Q _ => ∃ (a : Addr) (v u x : V), vs = [.ref a, v, u, x] ∧ H a = some (exo a C none) ∧ ∀ H', Off a H H' → ErrAt H' a C [(i, x), (g, u), (f, v)] → Q .non H'
theorem off_first {H : Hp} {a dx C : Addr} {u : HO} (n : H dx = none) : Off a H (upd (upd H dx u) a (exo a C (some dx))) := fun b o hb e => by rw [upd_ne hb, upd_ne (ne_of_none e n)]; exact e
theorem err_first {H : Hp} {a dx C : Addr} {fs : List (Str × V)} (ne : dx ≠ a) : ErrAt (upd (upd H dx (exd dx fs)) a (exo a C (some dx))) a C fs := ⟨dx, upd_same, by rw [upd_ne ne, upd_same]⟩
theorem err_next {H : Hp} {a dx C : Addr} {fs : List (Str × V)} (ne : dx ≠ a) (h : H a = some (exo a C (some dx))) : ErrAt (upd H dx (exd dx fs)) a C fs := ⟨dx, by rw [upd_ne ne.symm]; exact h, upd_same⟩
section
variable {P : Program} {w : World} {K : PySem.W.Frag} {mg : Str → Option Value} {base : Heap} {H : Hp} {C : Addr} {f g i : Str} {Q : VK}
theorem mk1 {v : V} (h : ∀ a H', Same H H' → H a = none → ErrAt H' a C [(f, v)] → Q (.ref a) H') :
    [v].length ≤ 1000 ∧ ∀ a, H a = none → spI1 C f (.ref a :: ([v] ++ [])) (upd H a (exo a C none)) (fun v H2 => v = .non ∧ Q (.ref a) H2) (fun _ _ _ => False) :=
  ⟨by simp, fun a na => ⟨a, v, rfl, upd_same, fun H' o e => ⟨rfl, h a H' (Off.same (same_new na) na o) na e⟩⟩⟩
theorem mk2 {v u : V} (h : ∀ a H', Same H H' → H a = none → ErrAt H' a C [(g, u), (f, v)] → Q (.ref a) H') :
    [v, u].length ≤ 1000 ∧ ∀ a, H a = none → spI2 C f g (.ref a :: ([v, u] ++ [])) (upd H a (exo a C none)) (fun v H2 => v = .non ∧ Q (.ref a) H2) (fun _ _ _ => False) :=
  ⟨by simp, fun a na => ⟨a, v, u, rfl, upd_same, fun H' o e => ⟨rfl, h a H' (Off.same (same_new na) na o) na e⟩⟩⟩
theorem mk3 {v u x : V} (h : ∀ a H', Same H H' → H a = none → ErrAt H' a C [(i, x), (g, u), (f, v)] → Q (.ref a) H') :
    [v, u, x].length ≤ 1000 ∧ ∀ a, H a = none → spI3 C f g i (.ref a :: ([v, u, x] ++ [])) (upd H a (exo a C none)) (fun v H2 => v = .non ∧ Q (.ref a) H2) (fun _ _ _ => False) :=
  ⟨by simp, fun a na => ⟨a, v, u, x, rfl, upd_same, fun H' o e => ⟨rfl, h a H' (Off.same (same_new na) na o) na e⟩⟩⟩
end
/-! ### isinstance over a list of errors -/
inductive Isi (K : PySem.W.Frag) (H : Hp) (cv : Value) : List V → List Bool → Prop
  | nil : Isi K H cv [] []
  | cons {a C : Addr} {fs : List (Str × V)} {b : Bool} {vs : List V} {bs : List Bool} : ErrAt H a C fs → ExcC K C → PySem.W.kitOne K (.ref C) cv = some b → Isi K H cv vs bs → Isi K H cv (.ref a :: vs) (b :: bs)
theorem Isi.mono {K : PySem.W.Frag} {H H' : Hp} {cv : Value} (s : Same H H') : ∀ {vs : List V} {bs : List Bool}, Isi K H cv vs bs → Isi K H' cv vs bs
  | _, _, .nil => .nil
  | _, _, .cons h1 h2 h3 t => .cons (h1.mono s) h2 h3 (t.mono s)
theorem Isi.get {K : PySem.W.Frag} {H : Hp} {cv : Value} : ∀ {vs : List V} {bs : List Bool} {i : Nat} {v : V}, Isi K H cv vs bs → vs[i]? = some v → ∃ a C fs b, v = .ref a ∧ ErrAt H a C fs ∧ ExcC K C ∧ PySem.W.kitOne K (.ref C) cv = some b ∧ bs[i]? = some b
  | _, _, i, v, .nil, e => by simp at e
  | _, _, 0, v, .cons h1 h2 h3 t, e => by
    simp at e
    exact ⟨_, _, _, _, e.symm, h1, h2, h3, by simp⟩
  | _, _, i + 1, v, .cons h1 h2 h3 t, e => by
    simp at e
    obtain ⟨a, C, fs, b, r⟩ := t.get e
    exact ⟨a, C, fs, b, r.1, r.2.1, r.2.2.1, r.2.2.2.1, by simpa using r.2.2.2.2⟩
theorem Isi.len {K : PySem.W.Frag} {H : Hp} {cv : Value} : ∀ {vs : List V} {bs : List Bool}, Isi K H cv vs bs → bs.length = vs.length
  | _, _, .nil => rfl
  | _, _, .cons _ _ _ t => by rw [List.length_cons, List.length_cons, t.len]
/-- one isinstance -/
theorem isi_one {K : PySem.W.Frag} {H : Hp} {a C : Addr} {fs : List (Str × V)} {b : Bool} {c : V} {cv : Value} {Q : VK} (h1 : ErrAt H a C fs) (h2 : ExcC K C) (hc : ∀ u, RelV c u → u = cv) (h3 : PySem.W.kitOne K (.ref C) cv = some b) (q : Q (.bl b) H) : rIsO K [.ref a, c] H Q := by
  obtain ⟨d, e1, e2⟩ := h1
  exact ⟨a, C, d, fs, c, cv, b, rfl, e1, e2, h2, hc, h3, q⟩
/-- [isinstance(x, c) for x in xs] -/
theorem comp_isi {K : PySem.W.Frag} {i j : Nat} {σ : L2.St} {H : Hp} {Q : VK} {l : Addr} {vs : List V} {bs : List Bool} {c : V} {cv : Value} (h1 : σ[i]? = some (some (.ref l))) (hl : SqL K H l vs) (hv : Isi K H cv vs bs) (hc : ∀ u, RelV c u → u = cv) (hz : vs.length ≤ 100) (hj : j < σ.length)
    (hq : ∀ D H', Same H H' → H' D = some (.lst (bs.map .bl)) → Q (.ref D) H') : tLc (iList K (tVar i)) (gName j) tYes (tCB (rIsO K) (tCons (tVar j) (tCons (tC c) tNil))) [j] σ H Q := by
  refine ⟨_, h1, l, rfl, ⟨_, hl⟩, fun D hD => ?_⟩
  have s0 : Same H (upd H D (.lst [])) := same_new hD
  refine lc_list (xs := vs) (fun i H' => Same H H' ∧ H' D = some (.lst ((bs.take i).map .bl))) ⟨s0, upd_same⟩ (fun _ _ _ h => h.1.seq hl) (fun k x H' hx ⟨s, hd⟩ => ?_) (fun H' ⟨s, hd⟩ => hq D H' s ?_)
  · obtain ⟨a, C, fs, b, rfl, e1, e2, e3, e4⟩ := (hv.mono s).get hx
    refine ⟨by simp [wipe], ?_⟩
    refine ⟨.ref a, by simp [wipe, hj], ?_⟩
    dsimp only [tCons, tC, tNil]
    refine isi_one e1 e2 hc e3 ⟨_, hd, ?_, ?_, ?_⟩
    · rw [List.length_map, List.length_take]
      have := hv.len
      exact small1000 (by omega)
    · intro b' o e
      rw [upd_ne (ne_of_none e hD)]
      exact s _ _ e
    · rw [upd_same, List.take_add_one, e4, List.map_append]
      rfl
  · rw [hd, ← hv.len, List.take_length]
end FS

set_option Elab.async false
set_option linter.all false
set_option maxRecDepth 100000
set_option maxHeartbeats 4000000
namespace FS
open PySem PySem.Spec PyProof.Rows L2
section
variable {K : PySem.W.Frag} {H : Hp} {Q : VK}
theorem mkL {xs : List V} (hl : xs.length ≤ 1000) (h : ∀ p H', Same H H' → H p = none → H' p = some (.lst xs) → Q (.ref p) H') : xs.length ≤ sizeLine ∧ ∀ p, H p = none → Q (.ref p) (upd H p (.lst xs)) :=
  ⟨Nat.le_of_lt (small1000 hl), fun p np => h p _ (same_new np) np upd_same⟩
theorem mkT {xs : List V} (hl : xs.length ≤ 1000) (h : ∀ p H', Same H H' → H p = none → H' p = some (.tup xs) → Q (.ref p) H') : xs.length ≤ sizeLine ∧ ∀ p, H p = none → Q (.ref p) (upd H p (.tup xs)) :=
  ⟨Nat.le_of_lt (small1000 hl), fun p np => h p _ (same_new np) np upd_same⟩
theorem mkD (h : ∀ p H', Same H H' → H p = none → H' p = some (.dK []) → Q (.ref p) H') : ∀ p, H p = none → Q (.ref p) (upd H p (.dK [])) := fun p np => h p _ (same_new np) np upd_same
theorem mkCat {l b : Addr} {xs zs : List V} (hl : H l = some (.lst xs)) (hb : H b = some (.lst zs)) (hz : xs.length + zs.length ≤ 1000) (h : ∀ p H', Same H H' → H' p = some (.lst (xs ++ zs)) → Q (.ref p) H') : rCat (.ref l) (.ref b) H Q :=
  ⟨l, b, xs, zs, rfl, rfl, hl, hb, Nat.le_of_lt (small1000 hz), fun p np => h p _ (same_new np) upd_same⟩
theorem rp {a : Addr} {v : V} {vs : List V} {ds : List PyData} (ha : H a = some (.lst (v :: vs))) (hn : NiceAll K H (v :: vs) ds) (hl : (v :: vs).length ≤ 1000) (q : Q (.str (listText (PyData.shownAll ds))) H) : rReprL K [.ref a] H Q :=
  ⟨a, v, vs, ds, rfl, ha, hn.dq, hn.show, hn.depth, hn.size hl, q⟩
theorem rd_at {σ : L2.St} {l a C : Addr} {xs : List V} {i : Int} {j : Nat} {fs : List (Str × V)} {n : Str} {v : V} (hj : σ[j]? = some (some (.ref l))) (hL : H l = some (.lst xs)) (hx : atI xs i = some (.ref a)) (he : ErrAt H a C fs) (T : XfC K C)
    (no : PySem.W.findIn K (.ref C) n = some none) (hl : fs.lookup n = some v) (q : Q v H) : tXo K n (tOp (rIxL K) (tVar j) (tC (.int i))) σ H Q := by
  obtain ⟨d, h1, h2⟩ := he
  exact ⟨_, hj, l, xs, i, _, rfl, rfl, SqL.of hL, hx, a, C, d, fs, v, rfl, h1, h2, T, no, hl, q⟩
theorem dp_bools {a : Addr} {bs : List Bool} (h : H a = some (.lst (bs.map V.bl))) : Dp K H (.ref a) (.list (bs.map PyData.bool)) := by
  refine .lst (SqL.of h) ?_
  clear h
  induction bs with
  | nil => exact .nil
  | cons b r ih => exact .cons (.bl b) ih
/-- [spot == other for other in range(n)] -/
theorem comp_eq {σ : L2.St} {i j n : Nat} {z : Int} (hi : σ[i]? = some (some (.int z))) (hj : j < σ.length) (hne : i ≠ j) (hn : n ≤ 1000)
    (hq : ∀ D H', Same H H' → H' D = some (.lst ((List.range n).map fun k : Nat => V.bl (decide (V.int z = V.int (0 + (k : Int)))))) → Q (.ref D) H') : tLc (iRng1 (tCons (tC (.int (n : Int))) tNil)) (gName j) tYes (tOp rEq (tVar i) (tVar j)) [j] σ H Q := by
  refine ⟨(n : Int), rfl, by omega, by omega, fun D hD => ?_⟩
  refine lc_range (lo := 0) (n := n) (fun k H' => Same H H' ∧ H' D = some (.lst ((List.range k).map fun k : Nat => V.bl (decide (V.int z = V.int (0 + (k : Int))))))) ⟨same_new hD, upd_same⟩ (fun k H' hk ⟨s, hd⟩ => ?_) (fun H' ⟨s, hd⟩ => hq D H' s hd)
  refine ⟨by simp [wipe], ?_⟩
  refine ⟨.int z, ?_, .int (0 + (k : Int)), by simp [wipe, hj], rfl, _, hd, ?_, ?_, ?_⟩
  · simp [wipe, List.getElem?_set, hne.symm, hi]
  · rw [List.length_map, List.length_range]
    exact small1000 (by omega)
  · intro b o e
    rw [upd_ne (ne_of_none e hD)]
    exact s _ _ e
  · rw [upd_same, List.range_succ, List.map_append]
    rfl
theorem off_second {a dx C : Addr} {u1 u2 : HO} (n : H dx = none) : Off a H (upd (upd (upd H dx u1) a (exo a C (some dx))) dx u2) := fun b o hb e => by rw [upd_ne (ne_of_none e n), upd_ne hb, upd_ne (ne_of_none e n)]; exact e
theorem off_third {a dx C : Addr} {u1 u2 u3 : HO} (n : H dx = none) : Off a H (upd (upd (upd (upd H dx u1) a (exo a C (some dx))) dx u2) dx u3) := fun b o hb e => by rw [upd_ne (ne_of_none e n), upd_ne (ne_of_none e n), upd_ne hb, upd_ne (ne_of_none e n)]; exact e
end
end FS

set_option Elab.async false
set_option linter.all false
set_option maxRecDepth 100000
set_option maxHeartbeats 4000000
namespace FS
open PySem PySem.Spec PyProof.Rows L2
/-! Rules whose readings hand on a heap by a letter: what stood stands, and the new thing is there. -/
section
variable {X : Cx} {e : Expr} {es : List Expr} {te : TE} {t : TA} {p pos : Pos}
theorem pe_imp {t' : TE} (h : PE X e te) (i : ∀ σ H Q, t' σ H Q → te σ H Q) : PE X e t' := ⟨fun pins s σ H Q I q => h.run pins s σ H Q I (i σ H Q q)⟩
def tLstS (t : TA) : TE := fun σ H Q => t σ H fun xs H1 => xs.length ≤ 1000 ∧ ∀ p H', Same H1 H' → H1 p = none → H' p = some (.lst xs) → Q (.ref p) H'
def tTupS (t : TA) : TE := fun σ H Q => t σ H fun xs H1 => xs.length ≤ 1000 ∧ ∀ p H', Same H1 H' → H1 p = none → H' p = some (.tup xs) → Q (.ref p) H'
def tDictS : TE := fun _ H Q => ∀ p H', Same H H' → H p = none → H' p = some (.dK []) → Q (.ref p) H'
theorem pe_lstS (h : PA X es t) : PE X (.List es pos) (tLstS t) := by
  refine ⟨fun pins s0 σ H Q I hq => ?_⟩
  refine wpAny_List_spliced (thn (h.run pos pins s0 σ H _ I hq) fun us s1 ⟨xs, H1, I1, r, z, q⟩ => ⟨by rw [← r.length]; exact Nat.le_of_lt (small1000 z), ?_⟩)
  have nf : H1 s1.heap.objs.size = none := I1.hok.fresh (Nat.le_refl _)
  refine ⟨.ref s1.heap.objs.size, upd H1 s1.heap.objs.size (.lst xs), I1.laid (t' := s1.toks) (fun b u e1 => Heap.get?_push_of_some _ e1) (Nat.le_refl _) ?_, rfl, q _ _ (same_new nf) nf upd_same⟩
  exact ⟨Nat.le_of_lt (small1000 z), us, 0, r, Heap.get?_push_size _ rfl⟩
theorem pe_tupS {x1} (h : PA X es t) : PE X (.Tuple es x1 pos) (tTupS t) := by
  refine ⟨fun pins s0 σ H Q I hq => ?_⟩
  refine wpAny_Tuple_spliced (thn (h.run pos pins s0 σ H _ I hq) fun us s1 ⟨xs, H1, I1, r, z, q⟩ => ⟨by rw [← r.length]; exact Nat.le_of_lt (small1000 z), ?_⟩)
  have nf : H1 s1.heap.objs.size = none := I1.hok.fresh (Nat.le_refl _)
  refine ⟨.ref s1.heap.objs.size, upd H1 s1.heap.objs.size (.tup xs), I1.laid (t' := s1.toks) (fun b u e1 => Heap.get?_push_of_some _ e1) (Nat.le_refl _) ?_, rfl, q _ _ (same_new nf) nf upd_same⟩
  exact ⟨Nat.le_of_lt (small1000 z), us, r, ⟨_, Heap.get?_push_size _ rfl, rfl, _, rfl⟩⟩
theorem pe_dictS : PE X (.Dict [] [] pos) tDictS := pe_imp pe_dnewK fun σ H Q h p np => h p _ (same_new np) np upd_same
def rCatS : R2 := fun x y H Q => ∃ l b xs zs, x = .ref l ∧ y = .ref b ∧ H l = some (.lst xs) ∧ H b = some (.lst zs) ∧ xs.length + zs.length ≤ 1000 ∧ ∀ p H', Same H H' → H p = none → H' p = some (.lst (xs ++ zs)) → Q (.ref p) H'
theorem op_catS : OpR X (binaryOp .Add) rCatS := fun pins s σ H x y v u Q I rx ry ⟨l, b, xs, zs, e1, e2, h1, h2, hz, q⟩ =>
  op_cat pins s σ H x y v u Q I rx ry ⟨l, b, xs, zs, e1, e2, h1, h2, Nat.le_of_lt (small1000 hz), fun p np => q p _ (same_new np) np upd_same⟩
def rRepS : R2 := fun x y H Q => ∃ l k xs, x = .ref l ∧ y = .int k ∧ H l = some (.lst xs) ∧ 0 ≤ k ∧ k < 1000 ∧ xs.length * k.toNat ≤ 1000 ∧ ∀ p H', Same H H' → H p = none → H' p = some (.lst ((List.replicate k.toNat xs).flatten)) → Q (.ref p) H'
def tMk1 (C : Addr) (f : Str) (i : Nat) : TE := fun σ H Q => ∃ v, σ[i]? = some (some v) ∧ ∀ a H', Same H H' → H a = none → ErrAt H' a C [(f, v)] → Q (.ref a) H'
def tMk2 (C : Addr) (f g : Str) (i j : Nat) : TE := fun σ H Q => ∃ v u, σ[i]? = some (some v) ∧ σ[j]? = some (some u) ∧ ∀ a H', Same H H' → H a = none → ErrAt H' a C [(g, u), (f, v)] → Q (.ref a) H'
def tMk3 (C : Addr) (f g k : Str) (i j m : Nat) : TE := fun σ H Q => ∃ v u x, σ[i]? = some (some v) ∧ σ[j]? = some (some u) ∧ σ[m]? = some (some x) ∧ ∀ a H', Same H H' → H a = none → ErrAt H' a C [(k, x), (g, u), (f, v)] → Q (.ref a) H'
theorem pe_mk1 {C : Addr} {f : Str} {i : Nat} (h : PE X e (tMkV C (spI1 C f) [] (tCons (tVar i) tNil))) : PE X e (tMk1 C f i) := pe_imp h fun σ H Q ⟨v, e1, q⟩ => ⟨v, e1, mk1 q⟩
theorem pe_mk2 {C : Addr} {f g : Str} {i j : Nat} (h : PE X e (tMkV C (spI2 C f g) [] (tCons (tVar i) (tCons (tVar j) tNil)))) : PE X e (tMk2 C f g i j) := pe_imp h fun σ H Q ⟨v, u, e1, e2, q⟩ => ⟨v, e1, u, e2, mk2 q⟩
theorem pe_mk3 {C : Addr} {f g k : Str} {i j m : Nat} (h : PE X e (tMkV C (spI3 C f g k) [] (tCons (tVar i) (tCons (tVar j) (tCons (tVar m) tNil))))) : PE X e (tMk3 C f g k i j m) := pe_imp h fun σ H Q ⟨v, u, x, e1, e2, e3, q⟩ => ⟨v, e1, u, e2, x, e3, mk3 q⟩
def tCI (K : PySem.W.Frag) (i j : Nat) (c : V) : TE := fun σ H Q => ∃ (l : Addr) (vs : List V) (bs : List Bool) (cv : Value), σ[i]? = some (some (.ref l)) ∧ SqL K H l vs ∧ Isi K H cv vs bs ∧ (∀ u, RelV c u → u = cv) ∧ vs.length ≤ 100 ∧ j < σ.length ∧ ∀ D H', Same H H' → H' D = some (.lst (bs.map .bl)) → Q (.ref D) H'
theorem pe_ci {K : PySem.W.Frag} {i j : Nat} {c : V} (h : PE X e (tLc (iList K (tVar i)) (gName j) tYes (tCB (rIsO K) (tCons (tVar j) (tCons (tC c) tNil))) [j])) : PE X e (tCI K i j c) :=
  pe_imp h fun σ H Q ⟨l, vs, bs, cv, h1, h2, h3, h4, h5, h6, q⟩ => comp_isi h1 h2 h3 h4 h5 h6 q
def tCE (i j n : Nat) : TE := fun σ H Q => ∃ z : Int, σ[i]? = some (some (.int z)) ∧ j < σ.length ∧ ∀ D H', Same H H' → H' D = some (.lst ((List.range n).map fun k : Nat => V.bl (decide (V.int z = V.int (0 + (k : Int)))))) → Q (.ref D) H'
theorem pe_ce {i j n : Nat} (hne : i ≠ j) (hn : n ≤ 1000) (h : PE X e (tLc (iRng1 (tCons (tC (.int (n : Int))) tNil)) (gName j) tYes (tOp rEq (tVar i) (tVar j)) [j])) : PE X e (tCE i j n) := pe_imp h fun σ H Q ⟨z, h1, h2, q⟩ => comp_eq h1 h2 hne hn q
def tRep (K : PySem.W.Frag) (te : TE) : TE := fun σ H Q => te σ H fun x H1 => rReprL K [x] H1 Q
theorem pe_rep {K : PySem.W.Frag} (h : PE X e (tCB (rReprL K) (tCons te tNil))) : PE X e (tRep K te) := pe_imp h fun _ _ _ q => q
def tIsi (K : PySem.W.Frag) (te : TE) (c : V) : TE := fun σ H Q => te σ H fun x H1 => rIsO K [x, c] H1 Q
theorem pe_isi {K : PySem.W.Frag} {c : V} (h : PE X e (tCB (rIsO K) (tCons te (tCons (tC c) tNil)))) : PE X e (tIsi K te c) := pe_imp h fun _ _ _ q => q
end
end FS

set_option Elab.async false
set_option linter.all false
set_option maxRecDepth 100000
set_option maxHeartbeats 4000000
namespace FS
open PySem PySem.Spec PyProof.Rows L2
section
variable {X : Cx}
theorem count_eqU {y : V} : ∀ {xs : List V} {us : List Value}, Vals xs us → xs.all flatV = true → us.countP (eqU y) = xs.countP fun z => eqV z y
  | _, _, .nil, _ => rfl
  | x :: xs, u :: us, .cons r t, f => by
    rw [List.all_cons, Bool.and_eq_true] at f
    rw [List.countP_cons, List.countP_cons, eqU_of r f.1, count_eqU t f.2]
/-- xs.count(y), flat items -/
def rCntV (K : PySem.W.Frag) : V → List V → Hp → VK → Prop := fun x xs H Q => ∃ (p : Addr) (ys : List V) (y : V), x = .ref p ∧ xs = [y] ∧ SqL K H p ys ∧ flatV y = true ∧ ys.all flatV = true ∧ Q (.int (ys.countP (fun z => eqV z y) : Nat)) H
theorem mt_countV : MtR X "list.count" (rCntV X.K) := by
  intro pins s σ H x xs v us Q I rx rxs h
  obtain ⟨p, ys, y, rfl, rfl, hs, fy, fys, q⟩ := h
  cases rx
  obtain ⟨u, rfl, ru⟩ := rxs.one
  obtain ⟨its, rv, ⟨⟨cls, dd, data, sl⟩, n, ho, hc, hdn, hd⟩, hlen⟩ := I.list hs
  simp only at hc hd
  subst hc hd
  refine call_meets PySem.F.slot_list_count ⟨_, ho, rfl⟩ PySem.F.entry_list_count (PySem.F.args_list_count_2 _ _)
    (SeqAt.list_countAt p its.toArray n dd sl u (eqU y)) ⟨ho, fun z hz => mem_eqAt ru fy rv fys z (by simpa using hz), ?_⟩
  have ec : its.toArray.toList.countP (eqU y) = ys.countP fun z => eqV z y := count_eqU rv fys
  refine ⟨.int (ys.countP (fun z => eqV z y) : Nat), H, I.tok _, ⟨s.toks, ?_⟩, q⟩
  show Value.int ((its.toArray.toList.countP (eqU y) : Nat) : Int) s.toks = Value.int ((ys.countP (fun z => eqV z y) : Nat) : Int) s.toks
  rw [ec]
def rSlS (K : PySem.W.Frag) : V → Option Int → Option Int → Hp → VK → Prop := fun x lo hi H Q => ∃ a xs, x = .ref a ∧ SqL K H a xs ∧ ∀ p H', Same H H' → H p = none → H' p = some (.lst (cutV xs lo hi)) → Q (.ref p) H'
theorem sl_listS : SlR X (rSlS X.K) := fun pins s σ H x v vl vu lo hi sl Q I rx hs pl pu ⟨a, xs, e, hx, q⟩ =>
  sl_list pins s σ H x v vl vu lo hi sl Q I rx hs pl pu ⟨a, xs, e, hx, fun p np => q p _ (same_new np) np upd_same⟩
theorem call_listS : CallR X (.type "list") (fun xs H Q => ∃ p ys, xs = [.ref p] ∧ (SqL X.K H p ys ∨ SqT X.K H p ys) ∧ ∀ l H', Same H H' → H l = none → H' l = some (.lst ys) → Q (.ref l) H') := fun pins s σ H xs us Q I r ⟨p, ys, e, h, q⟩ =>
  call_list_of pins s σ H xs us Q I r ⟨p, ys, e, h, fun l nl => q l _ (same_new nl) nl upd_same⟩
theorem op_repS : OpR X (binaryOp .Mult) rRepS := fun pins s σ H x y v u Q I rx ry ⟨l, k, xs, e1, e2, h, k0, k1, hz, q⟩ =>
  op_rep pins s σ H x y v u Q I rx ry ⟨l, k, xs, e1, e2, h, by omega, by omega, Nat.le_of_lt (small1000 hz), fun p np => q p _ (same_new np) np upd_same⟩
end
theorem ixN_of {n j : Nat} (hj : j < n) : ixN n (j : Int) = some j := by
  unfold ixN
  rw [if_pos (by omega), if_pos (by omega)]; simp
theorem cut_ints (ns : List Int) (lo hi : Option Int) : ∃ ms : List Int, cutV (ns.map V.int) lo hi = ms.map V.int ∧ ms.length ≤ ns.length := by
  refine ⟨(ns.drop (HT.sIx (ns.map V.int).length 0 lo)).take (HT.sIx (ns.map V.int).length (ns.map V.int).length hi - HT.sIx (ns.map V.int).length 0 lo), ?_, ?_⟩
  · unfold cutV
    rw [List.map_take, List.map_drop]
  · rw [List.length_take, List.length_drop]
    omega
end FS

set_option Elab.async false
set_option linter.all false
set_option maxRecDepth 100000
set_option maxHeartbeats 4000000
/-! The module of texts, def by def: each hands back its mirror's value. -/
namespace TX
open PySem PySem.Spec PyProof.Rows L2 L2.FK FS
def top (i : Nat) : Stmt := PySem.Challenge.pw_foldsame_k82_places_in_questions.main.body.getD i (.Pass ⟨0, 0, 0, 0⟩)
def o : Nat := 13
abbrev sIsName : Stmt := top 13
abbrev sReadInt : Stmt := top (o + 1)
/-! ### the mirror -/
def LET : Str := "abcdefghijklmnopqrstuvwxyz"
def DIG : Str := "0123456789"
def OTHERS : List Str := ["func", "data", "end", "export", "alias"]
def REGS : List Str := ["a", "b", "c", "d"]
def FORM : List (Str × List Str) := [("call", ["name"]), ("callr", ["reg"]), ("ret", []), ("addr", ["reg", "name"]), ("set", ["reg", "integer"]), ("move", ["reg", "reg"]), ("read", ["reg", "name", "integer"]), ("readr", ["reg", "reg", "integer"]), ("same", ["reg", "reg", "to"]), ("choose", ["to"]), ("tell", ["reg"]), ("go", ["to"])]
def formOf (z : Str) : Option (List Str) := FORM.lookup z
def inL (c : Nat) : Bool := decide (c ∈ LET.cps.toList)
def inD (c : Nat) : Bool := decide (c ∈ DIG.cps.toList)
def isName (z : Str) : Bool :=
  decide (1 ≤ z.length) && decide (z.length ≤ 8) && !OTHERS.contains z && !(formOf z).isSome && ((z.cps.toList[0]?).any inL) && z.cps.toList.all fun c => inL c || inD c
def readInt (z : Str) : Option Int :=
  if !(decide (1 ≤ z.length) && decide (z.length ≤ 2)) || !(z.cps.toList.all inD) then none
  else if z.length == 2 && z.cps.toList[0]? == some 48 then none else PySem.intText? z
/-! ### what the text holds -/
/-- a tuple of texts of the module -/
def KT (K : PySem.W.Frag) (a : Addr) (xs : List V) : Prop := ∃ (o : Obj) (its : Array Value) (n : Nat), K.lookup a = some o ∧ o.cls = .type "tuple" ∧ o.data = .seq its n ∧ its.size ≤ sizeLine ∧ Vals xs its.toList
theorem KT.sq {K : PySem.W.Frag} {a : Addr} {xs : List V} (h : KT K a xs) (H : Hp) : SqT K H a xs := .inr h
structure TT (K : PySem.W.Frag) (w : World) (mg : Str → Option Value) (aO aR dF : Addr) (es : Array DictEntry) (nF : Nat) (tF : Str → Addr) : Prop where
  gL : ∃ t, mg "LETTERS" = some (.str LET t)
  gD : ∃ t, mg "DIGITS" = some (.str DIG t)
  g8 : ∃ t, mg "LONGEST_NAME" = some (.int 8 t)
  gO : mg "OTHER_WORDS" = some (.ref aO)
  kO : KT K aO (OTHERS.map V.str)
  gR : mg "REGISTERS" = some (.ref aR)
  kR : KT K aR (REGS.map V.str)
  gF : mg "FORMS" = some (.ref dF)
  kF : KDict K w dF es nF
  lF : ∀ z, PySem.W.nsIn K dF z = some ((formOf z).map fun _ => Value.ref (tF z))
  tF : ∀ z ws, formOf z = some ws → KT K (tF z) (ws.map V.str)
  zi : mg "isinstance" = none
  zs : mg "str" = none
  zl : mg "len" = none
  za : mg "all" = none
  zy : mg "any" = none
  zn : mg "int" = none
  zz : mg "zip" = none
theorem b_isi : bootBuiltins "isinstance" = some (.builtin "isinstance") := by decide +kernel
theorem b_str : bootBuiltins "str" = some (.type "str") := by decide +kernel
theorem b_all : bootBuiltins "all" = some (.builtin "all") := by decide +kernel
theorem b_any : bootBuiltins "any" = some (.builtin "any") := by decide +kernel
theorem b_int : bootBuiltins "int" = some (.type "int") := by decide +kernel
/-- no text: isinstance tells -/
def NoStr (K : PySem.W.Frag) (H : Hp) (v : V) : Prop := ∃ t, TyX K H v t ∧ PySem.W.kitOne K t (.type "str") = some false
section
variable {P : Program} {w : World} {K : PySem.W.Frag} {mg : Str → Option Value} {base : Heap} {aO aR dF : Addr} {es : Array DictEntry} {nF : Nat} {tF : Str → Addr}
theorem len_cps (z : Str) : z.cps.toList.length = z.length := by
  show z.cps.toList.length = z.cps.size
  simp
theorem others_in (z : Str) : inV (.str z) (OTHERS.map V.str) = OTHERS.contains z := by
  have key : ∀ l : List Str, inV (.str z) (l.map V.str) = l.contains z := by
    intro l
    induction l with
    | nil => rfl
    | cons x r ih =>
      show (eqV (.str x) (.str z) || inV (.str z) (r.map V.str)) = _
      rw [ih, List.contains_cons]
      congr 1
      show (x == z) = (z == x)
      exact Bool.beq_comm
  exact key OTHERS
/-! ### is_name -/
def spIsName (K : PySem.W.Frag) : Sp := fun vs H Q _ => ∃ v, vs = [v] ∧ ((∃ z, v = .str z ∧ z.length ≤ sizeLine ∧ ∀ H', Same H H' → Q (.bl (isName z)) H') ∨ (NoStr K H v ∧ Q (.bl false) H))
theorem scN : FnScope ["value", "sign"] ["value"] (defScope sIsName) := ⟨rfl, rfl, rfl, by decide +kernel, rfl, by decide +kernel, by decide +kernel⟩
theorem ok_isName {f : Addr} {fd : FuncData} {k : Nat} (F : Fun K "is_name" "is_name" sIsName f fd) (T : TT K w mg aO aR dF es nF tF) : FnOk P w K mg base CX0 (k + 1) f fd ["value"] (spIsName K) := by
  obtain ⟨tL, gL⟩ := T.gL
  obtain ⟨tD, gD⟩ := T.gD
  obtain ⟨t8, g8⟩ := T.g8
  refine F.ok scN (fun vs H Q E h => ?_) (fun cdv A outer s H vs Q E hr h => ?_)
  · obtain ⟨v, rfl, _⟩ := h
    rfl
  · obtain ⟨v, rfl, q⟩ := h
    refine ⟨_, pss_cons (ps_if (PW.pt (pw_or (pt_not (pt_val (pe_callB call_isi (by rfl) T.zi b_isi (pa_cons (pv 0) (pa_cons (pe_bltn rfl T.zs b_str (v := .ty "str") rfl) pa_nil)))))
        (pw_or1 (pt_not (pt_chain op_le op_le pe_int (pe_callB call_len_str (by rfl) T.zl PySem.boot_len (pa_cons (pv 0) pa_nil)) (pe_glob rfl g8 (v := .int 8) ⟨_, rfl⟩)))))) (pss_one (ps_ret pe_bl)) pss_nil)
      (pss_cons (ps_if (PW.pt (pw_or (pt_cmpR op_in_seq (pv 0) (pe_glob rfl T.gO (v := .ref aO) rfl) (by rfl)) (pw_or1 (pt_cmpR (op_in_kd T.kF) (pv 0) (pe_glob rfl T.gF (v := .ref dF) rfl) (by rfl))))) (pss_one (ps_ret pe_bl)) pss_nil)
      (pss_one (ps_ret (pe_and (pe_cmpR op_in_sign (pe_ix ix_str (pv 0) pe_int (fun _ _ => rfl)) (pe_glob rfl gL (v := .str LET) ⟨_, rfl⟩) (by rfl))
        (pe_one (pe_callB (cr_all rfl) (by rfl) T.za b_all (pa_cons (pe_lc (own := [("sign", 1)]) (g := gName 1) (tt := tYes) rfl scN.nd (pi_str (pv 0)) (blkOk_by (N := ["value", "sign"]) (sc := defScope sIsName) (by decide +kernel)) (fun _ _ _ _ _ => pg_name (i := 1) scN.nd rfl (Or.inl rfl)) (fun _ _ _ _ _ => pts_nil)
          (fun _ _ _ _ _ => pe_or (pe_cmpR op_in_sign (pv 1) (pe_glob rfl gL (v := .str LET) ⟨_, rfl⟩) (by rfl)) (pe_one (pe_cmpR op_in_sign (pv 1) (pe_glob rfl gD (v := .str DIG) ⟨_, rfl⟩) (by rfl))))) pa_nil))))))), ?_⟩
    rcases q with ⟨z, rfl, hz, q⟩ | ⟨⟨t, ty, kt⟩, q⟩
    · have hq : ∀ (H' : Hp) (b : Bool), Same H H' → isName z = b → Q (.bl b) H' := fun H' b s e => by rw [← e]; exact q H' s
      have ks : PySem.W.kitOne K (.type "str") (.type "str") = some true := kit_ty (by decide +kernel)
      refine ⟨.str z, rfl, .str z, .ty "str", .type "str", .type "str", true, rfl, .ty "str", .base (.str z), ks, true, rfl, iteF ?_⟩
      refine ⟨.str z, rfl, z, rfl, hz, _, _, rfl, rfl, _, rfl, ?_⟩
      refine ite2 (fun h1 => ?_) (fun h1 => ⟨_, rfl, iteT (hq H false (Same.refl H) ?_)⟩)
      · refine ⟨_, _, rfl, rfl, _, rfl, ?_⟩
        by_cases h2 : (z.length : Int) ≤ 8
        · rw [decide_eq_true h2]
          refine iteF ?_
          refine ⟨.str z, rfl, aO, _, rfl, .inr (T.kO.sq H), rfl, by decide, ?_⟩
          rw [show (if false = true then !inV (V.str z) (OTHERS.map V.str) else inV (V.str z) (OTHERS.map V.str)) = OTHERS.contains z from others_in z]
          refine ⟨_, rfl, ?_⟩
          by_cases h3 : OTHERS.contains z = true
          · rw [h3]
            exact iteT (iteT (hq H false (Same.refl H) (by simp only [isName, h3, Bool.not_true, Bool.and_false, Bool.false_and])))
          · have h3' : OTHERS.contains z = false := by simpa using h3
            rw [h3']
            refine iteF ⟨.str z, rfl, z, _, rfl, rfl, T.lF z, _, rfl, ?_⟩
            by_cases h4 : (formOf z).isSome = true
            · rw [Option.isSome_map, h4]
              exact iteT (hq H false (Same.refl H) (by simp only [isName, h4, Bool.not_true, Bool.and_false, Bool.false_and]))
            · have h4' : (formOf z).isSome = false := by simpa using h4
              rw [Option.isSome_map, h4']
              refine iteF ?_
              have h1' : (1 : Int) ≤ (z.length : Int) := of_decide_eq_true h1
              obtain ⟨c, hc⟩ : ∃ c, z.cps.toList[0]? = some c := ⟨_, List.getElem?_eq_getElem (by rw [len_cps]; omega)⟩
              have n1 : decide (1 ≤ z.length) = true := decide_eq_true (by omega)
              have n2 : decide (z.length ≤ 8) = true := decide_eq_true (by omega)
              refine ⟨.str z, rfl, z, 0, c, rfl, rfl, hz, atI_nat (j := 0) hc, c, LET, rfl, rfl, _, rfl, ?_⟩
              refine ite2 (fun h5 => ?_) (fun h5 => hq H false (Same.refl H) ?_)
              · refine ⟨.str z, rfl, z, rfl, fun D hD => ?_⟩
                refine lc_it walk_str (fun i H' => Same H H' ∧ H' D = some (.lst ((z.cps.toList.take i).map fun c => V.bl (inL c || inD c)))) ⟨same_new hD, upd_same⟩ (fun _ _ _ _ => True.intro) (fun i x H1 H2 hi ⟨s1, e1⟩ ⟨eH, c', hc', ex⟩ => ?_) (fun H1 ⟨s1, e1⟩ => ?_)
                · subst eH
                  subst ex
                  have hi' : z.cps.toList[i]? = some c' := by simpa using hc'
                  have adv : (z.cps.toList.take (i + 1)).map (fun c => V.bl (inL c || inD c)) = (z.cps.toList.take i).map (fun c => V.bl (inL c || inD c)) ++ [V.bl (inL c' || inD c')] := by
                    rw [List.take_add_one, hi', List.map_append]
                    rfl
                  have sm : ((z.cps.toList.take i).map fun c => V.bl (inL c || inD c)).length < sizeLine := by
                    rw [List.length_map, List.length_take]
                    exact small1000 (by have := len_cps z; omega)
                  refine ⟨rfl, ?_⟩
                  refine ⟨.str ⟨#[c']⟩, rfl, c', LET, rfl, rfl, _, rfl, ?_⟩
                  have fin : ∀ b : Bool, b = (inL c' || inD c') → ∃ acc, H2 D = some (.lst acc) ∧ acc.length < sizeLine ∧ Same H (upd H2 D (.lst (acc ++ [.bl b]))) ∧ (upd H2 D (.lst (acc ++ [.bl b]))) D = some (.lst ((z.cps.toList.take (i + 1)).map fun c => V.bl (inL c || inD c))) := fun b eb =>
                    ⟨_, e1, sm, fun a o e => by rw [upd_ne (ne_of_none e hD)]; exact s1 _ _ e, by rw [upd_same, adv, eb]⟩
                  refine ite2 (fun h6 => fin true ?_) (fun h6 => ⟨.str ⟨#[c']⟩, rfl, c', DIG, rfl, rfl, fin _ ?_⟩)
                  · have h7 : inL c' = true := h6
                    rw [h7]
                    rfl
                  · have h7 : inL c' = false := by
                      have : ¬ inL c' = true := h6
                      simpa using this
                    rw [h7]
                    rfl
                · have e2 : H1 D = some (.lst ((z.cps.toList.map fun c => inL c || inD c).map V.bl)) := by
                    rw [e1, List.take_of_length_le (by simp), List.map_map]
                    rfl
                  refine ⟨D, _, rfl, SqL.of e2, hq H1 _ s1 ?_⟩
                  have h5' : inL c = true := h5
                  simp only [isName, n1, n2, h3', h4', hc, Option.any_some, h5', Bool.not_false, Bool.and_true, Bool.true_and, List.all_map]
                  rfl
              · have h5' : inL c = false := by
                  have : ¬ inL c = true := h5
                  simpa using this
                simp only [isName, hc, Option.any_some, h5', Bool.and_false, Bool.false_and]
        · rw [decide_eq_false h2]
          refine iteT (hq H false (Same.refl H) ?_)
          have n2 : decide (z.length ≤ 8) = false := decide_eq_false (by omega)
          simp only [isName, n2, Bool.and_false, Bool.false_and]
      · have n1 : decide (1 ≤ z.length) = false := decide_eq_false (by
          have h1' : ¬ (1 : Int) ≤ (z.length : Int) := fun e => h1 (decide_eq_true e)
          omega)
        simp only [isName, n1, Bool.false_and]
    · refine ⟨v, rfl, v, .ty "str", t, .type "str", false, rfl, .ty "str", ty, kt, false, rfl, iteT ?_⟩
      exact iteT q
end
end TX

set_option Elab.async false
set_option linter.all false
set_option maxRecDepth 100000
set_option maxHeartbeats 4000000
/-! Questions: what a text says, by what is left of it. -/
namespace AQ
open PySem PySem.Spec PyProof.Rows L2 L2.FK FS TX
inductive Tr where
  | word (w : Str) | road (r : Str) (t : Tr) | bin (g : Str) (a b : Tr)
abbrev S := List Nat
def inW (c : Nat) : Bool := inL c || (inD c || c == 46)
def skip (s : S) : S := s.dropWhile (· == 32)
def wl (s : S) : Nat := max (s.takeWhile inW).length 1
def tok (s : S) : Str := ⟨(s.take (wl s)).toArray⟩
def adv (s : S) : S := skip (s.drop (wl s))
def WORDS : List Str := ["all", "funcs", "data", "taken", "used", "kept"]
def ROADS : List Str := ["bodies", "mates", "calls", "takes", "leads"]
def LOOSE : List Str := ["|", "-"]
def isFull (z : Str) : Bool := decide ((Txt.split z ".").length = 2) && (Txt.split z ".").all isName
def isW (z : Str) : Bool := WORDS.contains z || isFull z
inductive Res where
  | ok (t : Tr) (s : S) | er (s : S)
mutual
inductive Sg : Nat → S → Res → Prop
  | road {n s t s'} : ROADS.contains (tok s) = true → Ins n (adv s) (.ok t s') → Sg n s (.ok (.road (tok s) t) s')
  | roadE {n s e} : ROADS.contains (tok s) = true → Ins n (adv s) (.er e) → Sg n s (.er e)
  | word {n s} : ROADS.contains (tok s) = false → isW (tok s) = true → Sg n s (.ok (.word (tok s)) (adv s))
  | ins {n s r} : ROADS.contains (tok s) = false → isW (tok s) = false → Ins n s r → Sg n s r
inductive Ins : Nat → S → Res → Prop
  | no {n s} : tok s ≠ "(" ∨ n = 0 → Ins n s (.er s)
  | ok {n s t s'} : tok s = "(" → Lo n (adv s) (.ok t s') → tok s' = ")" → Ins (n + 1) s (.ok t (adv s'))
  | erL {n s e} : tok s = "(" → Lo n (adv s) (.er e) → Ins (n + 1) s (.er e)
  | erR {n s t s'} : tok s = "(" → Lo n (adv s) (.ok t s') → tok s' ≠ ")" → Ins (n + 1) s (.er s')
inductive TL : Nat → Nat → Tr → S → Res → Prop
  | stop {n t s} : tok s ≠ "&" → TL n 0 t s (.ok t s)
  | go {n k t s b s' r} : tok s = "&" → Sg n (adv s) (.ok b s') → TL n k (.bin "&" t b) s' r → TL n (k + 1) t s r
  | er {n t s e} : tok s = "&" → Sg n (adv s) (.er e) → TL n 0 t s (.er e)
inductive Ti : Nat → S → Res → Prop
  | go {n k s t s' r} : Sg n s (.ok t s') → TL n k t s' r → Ti n s r
  | er {n s e} : Sg n s (.er e) → Ti n s (.er e)
inductive LL : Nat → Nat → Tr → S → Res → Prop
  | stop {n t s} : LOOSE.contains (tok s) = false → LL n 0 t s (.ok t s)
  | go {n k t s b s' r} : LOOSE.contains (tok s) = true → Ti n (adv s) (.ok b s') → LL n k (.bin (tok s) t b) s' r → LL n (k + 1) t s r
  | er {n t s e} : LOOSE.contains (tok s) = true → Ti n (adv s) (.er e) → LL n 0 t s (.er e)
inductive Lo : Nat → S → Res → Prop
  | go {n k s t s' r} : Ti n s (.ok t s') → LL n k t s' r → Lo n s r
  | er {n s e} : Ti n s (.er e) → Lo n s (.er e)
end
/-! ### texts and what they say -/
def bnd : S → Bool
  | [] => true
  | c :: _ => !inW c
theorem tok_nil : tok [] = "" := by decide +kernel
theorem tok_sign {c : Nat} (h : inW c = false) (r : S) : tok (c :: r) = ⟨#[c]⟩ := by
  unfold tok wl
  rw [List.takeWhile_cons, h]
  rfl
theorem adv_sign {c : Nat} (h : inW c = false) (r : S) : adv (c :: r) = skip r := by
  unfold adv wl
  rw [List.takeWhile_cons, h]
  rfl
theorem take_word : ∀ {w : S}, w.all inW = true → ∀ {r : S}, bnd r = true → (w ++ r).takeWhile inW = w
  | [], _, r, hr => by
    cases r with
    | nil => rfl
    | cons c r =>
      have : inW c = false := by simpa [bnd] using hr
      show List.takeWhile inW (c :: r) = []
      rw [List.takeWhile_cons, this]
      rfl
  | c :: w, hw, r, hr => by
    rw [List.all_cons, Bool.and_eq_true] at hw
    show List.takeWhile inW (c :: (w ++ r)) = _
    rw [List.takeWhile_cons, hw.1, if_pos rfl, take_word hw.2 hr]
theorem tok_word {w : S} (h0 : w ≠ []) (hw : w.all inW = true) {r : S} (hr : bnd r = true) : tok (w ++ r) = ⟨w.toArray⟩ ∧ adv (w ++ r) = skip r := by
  have e : wl (w ++ r) = w.length := by
    unfold wl
    rw [take_word hw hr]
    have : 1 ≤ w.length := List.length_pos_iff.mpr h0
    omega
  unfold tok adv
  rw [e, List.take_left, List.drop_left]
  exact ⟨rfl, rfl⟩
theorem skip_ne {c : Nat} (h : c ≠ 32) (r : S) : skip (c :: r) = c :: r := by
  unfold skip
  rw [List.dropWhile_cons, if_neg (by simpa using h)]
theorem skip_word {w : S} (h0 : w ≠ []) (hw : w.all inW = true) (r : S) : skip (w ++ r) = w ++ r := by
  cases w with
  | nil => exact absurd rfl h0
  | cons c w =>
    rw [List.all_cons, Bool.and_eq_true] at hw
    refine skip_ne (fun e => ?_) _
    rw [e] at hw
    exact absurd hw.1 (by decide +kernel)
theorem skip_sp : ∀ (k : Nat) (r : S), skip (List.replicate k 32 ++ r) = skip r
  | 0, r => by simp
  | k + 1, r => by
    rw [List.replicate_succ]
    show skip (32 :: (List.replicate k 32 ++ r)) = _
    unfold skip
    rw [List.dropWhile_cons, if_pos (by decide)]
    exact skip_sp k r
theorem skip_skip (r : S) : skip (skip r) = skip r := by
  unfold skip
  induction r with
  | nil => rfl
  | cons c r ih =>
    rw [List.dropWhile_cons]
    by_cases h : (c == 32) = true
    · rw [if_pos h]; exact ih
    · rw [if_neg h, List.dropWhile_cons, if_neg h]
theorem bnd_sp {k : Nat} {r : S} (h : bnd r = true) : bnd (List.replicate k 32 ++ r) = true := by
  cases k with
  | zero => simpa using h
  | succ k =>
    rw [List.replicate_succ]
    show (!inW 32) = true
    decide +kernel
theorem s40 : tok [40] = "(" ∧ inW 40 = false ∧ inW 41 = false ∧ inW 38 = false ∧ inW 124 = false ∧ inW 45 = false := by decide +kernel
theorem str1 (c : Nat) (z : Str) (h : z.cps = #[c]) : (⟨#[c]⟩ : Str) = z := by rw [← h]
theorem e40 : (⟨#[40]⟩ : Str) = "(" := by decide +kernel
theorem e41 : (⟨#[41]⟩ : Str) = ")" := by decide +kernel
theorem e38 : (⟨#[38]⟩ : Str) = "&" := by decide +kernel
theorem e124 : (⟨#[124]⟩ : Str) = "|" := by decide +kernel
theorem e45 : (⟨#[45]⟩ : Str) = "-" := by decide +kernel
def QS (d : Nat) (t : Tr) (cs : S) : Prop := ∀ n, d ≤ n → ∀ r, bnd r = true → Sg n (skip (cs ++ r)) (.ok t (skip r))
def QT (d : Nat) (t : Tr) (cs : S) : Prop := ∀ n, d ≤ n → ∀ r, bnd r = true → ∀ k res, TL n k t (skip r) res → Ti n (skip (cs ++ r)) res
def QL (d : Nat) (t : Tr) (cs : S) : Prop := ∀ n, d ≤ n → ∀ r, bnd r = true → tok (skip r) ≠ "&" → ∀ k res, LL n k t (skip r) res → Lo n (skip (cs ++ r)) res
theorem QS.up {d e : Nat} {t : Tr} {cs : S} (h : QS d t cs) (l : d ≤ e) : QS e t cs := fun n hn => h n (Nat.le_trans l hn)
theorem QT.up {d e : Nat} {t : Tr} {cs : S} (h : QT d t cs) (l : d ≤ e) : QT e t cs := fun n hn => h n (Nat.le_trans l hn)
theorem QL.up {d e : Nat} {t : Tr} {cs : S} (h : QL d t cs) (l : d ≤ e) : QL e t cs := fun n hn => h n (Nat.le_trans l hn)
theorem QS.tight {d : Nat} {t : Tr} {cs : S} (h : QS d t cs) : QT d t cs := fun n hn r hr k res l => .go (h n hn r hr) l
theorem QT.loose {d : Nat} {t : Tr} {cs : S} (h : QT d t cs) : QL d t cs := fun n hn r hr na k res l => .go (h n hn r hr 0 _ (.stop na)) l
theorem QS_word {w : S} (h0 : w ≠ []) (hw : w.all inW = true) (hr : ROADS.contains (⟨w.toArray⟩ : Str) = false) (hW : isW ⟨w.toArray⟩ = true) : QS 0 (.word ⟨w.toArray⟩) w := fun n _ r hb => by
  obtain ⟨e1, e2⟩ := tok_word h0 hw hb
  rw [skip_word h0 hw]
  have := Sg.word (n := n) (s := w ++ r) (by rw [e1]; exact hr) (by rw [e1]; exact hW)
  rw [e1, e2] at this
  exact this
/-- what a question in parentheses gives -/
theorem ins_of {d : Nat} {t : Tr} {cs : S} (h : QL d t cs) {n : Nat} (hn : d ≤ n) (r : S) : Ins (n + 1) (40 :: (cs ++ 41 :: r)) (.ok t (skip r)) := by
  have e1 : skip (41 :: r) = 41 :: r := skip_ne (by decide) _
  have k : Lo n (skip (cs ++ 41 :: r)) (.ok t (41 :: r)) := by
    have := h n hn (41 :: r) (by show (!inW 41) = true; decide +kernel) (by rw [e1, tok_sign (by decide +kernel), e41]; decide +kernel) 0 (.ok t (41 :: r))
    rw [e1] at this
    exact this (.stop (by rw [tok_sign (by decide +kernel), e41]; decide +kernel))
  have := Ins.ok (n := n) (s := 40 :: (cs ++ 41 :: r)) (by rw [tok_sign (by decide +kernel), e40]) (by rw [adv_sign (by decide +kernel)]; exact k) (by rw [tok_sign (by decide +kernel), e41])
  rw [adv_sign (by decide +kernel)] at this
  exact this
theorem QL.par {d : Nat} {t : Tr} {cs : S} (h : QL d t cs) : QS (d + 1) t (40 :: (cs ++ [41])) := fun n hn r hr => by
  obtain ⟨m, rfl⟩ : ∃ m, n = m + 1 := ⟨n - 1, by omega⟩
  have e : (40 :: (cs ++ [41])) ++ r = 40 :: (cs ++ 41 :: r) := by simp
  rw [e, skip_ne (by decide)]
  refine .ins ?_ ?_ (ins_of h (by omega) r)
  · rw [tok_sign (by decide +kernel), e40]; decide +kernel
  · rw [tok_sign (by decide +kernel), e40]; decide +kernel
theorem QL.road {d : Nat} {t : Tr} {cs w : S} (h : QL d t cs) (h0 : w ≠ []) (hw : w.all inW = true) (hr : ROADS.contains (⟨w.toArray⟩ : Str) = true) (k : Nat) : QS (d + 1) (.road ⟨w.toArray⟩ t) (w ++ (List.replicate k 32 ++ 40 :: (cs ++ [41]))) := fun n hn r hb => by
  obtain ⟨m, rfl⟩ : ∃ m, n = m + 1 := ⟨n - 1, by omega⟩
  have e : (w ++ (List.replicate k 32 ++ 40 :: (cs ++ [41]))) ++ r = w ++ (List.replicate k 32 ++ 40 :: (cs ++ 41 :: r)) := by simp
  rw [e]
  obtain ⟨e1, e2⟩ := tok_word h0 hw (r := List.replicate k 32 ++ 40 :: (cs ++ 41 :: r)) (bnd_sp (by show (!inW 40) = true; decide +kernel))
  rw [skip_word h0 hw]
  have := Sg.road (n := m + 1) (s := w ++ (List.replicate k 32 ++ 40 :: (cs ++ 41 :: r))) (t := t) (s' := skip r) (by rw [e1]; exact hr) (by rw [e2, skip_sp, skip_ne (by decide)]; exact ins_of h (by omega) r)
  rw [e1] at this
  exact this
theorem QT.amp {d : Nat} {a b : Tr} {ca cb : S} (ha : QT d a ca) (hb : QS d b cb) : QT d (.bin "&" a b) (ca ++ 38 :: cb) := fun n hn r hr k res l => by
  have e : (ca ++ 38 :: cb) ++ r = ca ++ 38 :: (cb ++ r) := by simp
  rw [e]
  refine ha n hn (38 :: (cb ++ r)) (by show (!inW 38) = true; decide +kernel) (k + 1) res ?_
  rw [skip_ne (by decide)]
  exact .go (by rw [tok_sign (by decide +kernel), e38]) (by rw [adv_sign (by decide +kernel)]; exact hb n hn r hr) l
theorem QL.bin {d g : Nat} {a b : Tr} {ca cb : S} (ha : QL d a ca) (hb : QT d b cb) (hg : g = 124 ∨ g = 45) : QL d (.bin ⟨#[g]⟩ a b) (ca ++ g :: cb) := fun n hn r hr na k res l => by
  have e : (ca ++ g :: cb) ++ r = ca ++ g :: (cb ++ r) := by simp
  have hg1 : inW g = false := by rcases hg with rfl | rfl <;> decide +kernel
  have hg2 : g ≠ 32 := by rcases hg with rfl | rfl <;> decide
  have hg3 : LOOSE.contains (⟨#[g]⟩ : Str) = true := by rcases hg with rfl | rfl <;> decide +kernel
  have hg4 : (⟨#[g]⟩ : Str) ≠ "&" := by rcases hg with rfl | rfl <;> decide +kernel
  rw [e]
  refine ha n hn (g :: (cb ++ r)) (by show (!inW g) = true; rw [hg1]; rfl) (by rw [skip_ne hg2, tok_sign hg1]; exact hg4) (k + 1) res ?_
  rw [skip_ne hg2]
  refine .go (by rw [tok_sign hg1]; exact hg3) (by rw [adv_sign hg1]; exact hb n hn r hr 0 _ (.stop na)) ?_
  rw [tok_sign hg1]
  exact l
theorem QS.sp {d : Nat} {t : Tr} {cs : S} (h : QS d t cs) (i j : Nat) : QS d t (List.replicate i 32 ++ (cs ++ List.replicate j 32)) := fun n hn r hr => by
  have := h n hn (List.replicate j 32 ++ r) (bnd_sp hr)
  rw [skip_sp] at this
  rw [List.append_assoc, skip_sp, List.append_assoc]
  exact this
theorem QT.sp {d : Nat} {t : Tr} {cs : S} (h : QT d t cs) (i j : Nat) : QT d t (List.replicate i 32 ++ (cs ++ List.replicate j 32)) := fun n hn r hr k res l => by
  have := h n hn (List.replicate j 32 ++ r) (bnd_sp hr) k res (by rw [skip_sp]; exact l)
  rw [List.append_assoc, skip_sp, List.append_assoc]
  exact this
theorem QL.sp {d : Nat} {t : Tr} {cs : S} (h : QL d t cs) (i j : Nat) : QL d t (List.replicate i 32 ++ (cs ++ List.replicate j 32)) := fun n hn r hr na k res l => by
  have := h n hn (List.replicate j 32 ++ r) (bnd_sp hr) (by rw [skip_sp]; exact na) k res (by rw [skip_sp]; exact l)
  rw [List.append_assoc, skip_sp, List.append_assoc]
  exact this
/-- the whole text -/
theorem QL.whole {d : Nat} {t : Tr} {cs : S} (h : QL d t cs) (hd : d ≤ 8) : Lo 8 (skip cs) (.ok t []) := by
  have := h 8 hd [] rfl (by show tok [] ≠ "&"; rw [tok_nil]; decide +kernel) 0 (.ok t []) (.stop (by show LOOSE.contains (tok []) = false; rw [tok_nil]; decide +kernel))
  rw [List.append_nil] at this
  exact this
def isL : Tr → Bool
  | .bin g _ _ => LOOSE.contains g
  | _ => false
def isA : Tr → Bool
  | .bin g _ _ => decide (g = "&")
  | _ => false
def Says (d : Nat) (t : Tr) (cs : S) : Prop := match t with
  | .bin g _ _ => if g = "&" then QT d t cs else QL d t cs
  | _ => QS d t cs
theorem Says.pl {d : Nat} {t : Tr} {cs : S} (h : Says d t cs) : QL d t cs := by
  cases t with
  | word w => exact (show QS _ _ _ from h).tight.loose
  | road r t => exact (show QS _ _ _ from h).tight.loose
  | bin g a b =>
    have h : if g = "&" then QT d (.bin g a b) cs else QL d (.bin g a b) cs := h
    split at h
    · exact h.loose
    · exact h
theorem Says.of {d : Nat} {t : Tr} {cs : S} (h : QS d t cs) : Says d t cs := by
  cases t with
  | word w => exact h
  | road r t => exact h
  | bin g a b =>
    show if g = "&" then QT d (.bin g a b) cs else QL d (.bin g a b) cs
    split
    · exact h.tight
    · exact h.tight.loose
/-- the trees that are drawn -/
def Ok : Tr → Prop
  | .word w => w.cps.toList ≠ [] ∧ w.cps.toList.all inW = true ∧ ROADS.contains w = false ∧ isW w = true
  | .road r t => r.cps.toList ≠ [] ∧ r.cps.toList.all inW = true ∧ ROADS.contains r = true ∧ Ok t
  | .bin g a b => (g = "&" ∨ g = "|" ∨ g = "-") ∧ Ok a ∧ Ok b
def dep : Tr → Nat
  | .word _ => 0
  | .road _ t => dep t + 1
  | .bin _ a b => max (dep a) (dep b) + 1
theorem tight_of {d : Nat} {t : Tr} {cs : S} (o : Ok t) (h : Says d t cs) (n : isL t = false) : QT d t cs := by
  cases t with
  | word w => exact (show QS _ _ _ from h).tight
  | road r t => exact (show QS _ _ _ from h).tight
  | bin g a b =>
    have h : if g = "&" then QT d (.bin g a b) cs else QL d (.bin g a b) cs := h
    have hg : g = "&" := by
      rcases o.1 with e | e | e
      · exact e
      · rw [e] at n; exact absurd n (by show ¬ LOOSE.contains "|" = false; decide +kernel)
      · rw [e] at n; exact absurd n (by show ¬ LOOSE.contains "-" = false; decide +kernel)
    rw [if_pos hg] at h
    exact h
theorem single_of {d : Nat} {t : Tr} {cs : S} (o : Ok t) (h : Says d t cs) (n : isL t = false) (m : isA t = false) : QS d t cs := by
  cases t with
  | word w => exact h
  | road r t => exact h
  | bin g a b =>
    have hg : g = "&" := by
      rcases o.1 with e | e | e
      · exact e
      · rw [e] at n; exact absurd n (by show ¬ LOOSE.contains "|" = false; decide +kernel)
      · rw [e] at n; exact absurd n (by show ¬ LOOSE.contains "-" = false; decide +kernel)
    rw [hg] at m
    exact absurd m (by show ¬ decide (("&" : Str) = "&") = false; decide +kernel)
end AQ

set_option Elab.async false
set_option linter.all false
set_option maxRecDepth 100000
set_option maxHeartbeats 4000000
/-! The texts of trees, the least one and spaced ones, say the tree. -/
namespace AQ
open PySem PySem.Spec PyProof.Rows L2 L2.FK FS TX
abbrev cs (z : Str) : S := z.cps.toList
theorem cs_app (a b : Str) : cs (a ++ b) = cs a ++ cs b := by
  show (a.cps ++ b.cps).toList = _
  rw [Array.toList_append]
theorem str_cs {a b : Str} (h : cs a = cs b) : a = b := by
  obtain ⟨⟨x⟩⟩ := a
  obtain ⟨⟨y⟩⟩ := b
  have e : x = y := h
  rw [e]
theorem of_cs (z : Str) : (⟨(cs z).toArray⟩ : Str) = z := str_cs (by simp [cs])
theorem c40 : cs "(" = [40] := by decide +kernel
theorem c41 : cs ")" = [41] := by decide +kernel
theorem c32 : cs " " = [32] := by decide +kernel
theorem c38 : cs "&" = [38] := by decide +kernel
theorem c124 : cs "|" = [124] := by decide +kernel
theorem c45 : cs "-" = [45] := by decide +kernel
theorem c0 : cs "" = [] := by decide +kernel
def par (b : Bool) (z : Str) : Str := if b then ("(" : Str) ++ z ++ ")" else z
/-- the least text, as the law makes it -/
def lt : Tr → Str
  | .word w => w
  | .road r t => r ++ "(" ++ lt t ++ ")"
  | .bin g a b => par (decide (g = "&") && isL a) (lt a) ++ " " ++ g ++ " " ++ par (isL b || (decide (g = "&") && isA b)) (lt b)
theorem cs_par (b : Bool) (z : Str) : cs (par b z) = if b then 40 :: (cs z ++ [41]) else cs z := by
  unfold par
  cases b with
  | true => rw [if_pos rfl, if_pos rfl, cs_app, cs_app, c40, c41]; rfl
  | false => rw [if_neg (by simp), if_neg (by simp)]
/-- two trees and a sign -/
theorem says_bin {d : Nat} {g : Str} {a b : Tr} {x y : S} (i j : Nat) (o : Ok (.bin g a b)) (ha : Says d a x) (hb : Says d b y) :
    Says (d + 1) (.bin g a b) ((if decide (g = "&") && isL a then 40 :: (x ++ [41]) else x) ++ (List.replicate i 32 ++ (cs g ++ (List.replicate j 32 ++ (if isL b || (decide (g = "&") && isA b) then 40 :: (y ++ [41]) else y))))) := by
  obtain ⟨hg, oa, ob⟩ := o
  have hy0 : QT (d + 1) b (if isL b || (decide (g = "&") && isA b) then 40 :: (y ++ [41]) else y) := by
    split
    · exact hb.pl.par.tight
    · rename_i h
      have h := (Bool.or_eq_false_iff.mp (Bool.eq_false_iff.mpr h)).1
      exact (tight_of ob hb h).up (Nat.le_succ d)
  have hy1 : g = "&" → QS (d + 1) b (if isL b || (decide (g = "&") && isA b) then 40 :: (y ++ [41]) else y) := fun e => by
    split
    · exact hb.pl.par
    · rename_i h
      have h := Bool.or_eq_false_iff.mp (Bool.eq_false_iff.mpr h)
      have h2 := h.2
      rw [decide_eq_true e, Bool.true_and] at h2
      exact (single_of ob hb h.1 h2).up (Nat.le_succ d)
  have hx : g = "&" → QT (d + 1) a (if decide (g = "&") && isL a then 40 :: (x ++ [41]) else x) := fun e => by
    split
    · exact ha.pl.par.tight
    · rename_i h
      rw [decide_eq_true e, Bool.true_and] at h
      exact (tight_of oa ha (Bool.eq_false_iff.mpr h)).up (Nat.le_succ d)
  generalize hY : (if isL b || (decide (g = "&") && isA b) then 40 :: (y ++ [41]) else y) = Y at hy0 hy1 ⊢
  generalize hX : (if decide (g = "&") && isL a then 40 :: (x ++ [41]) else x) = X0 at hx ⊢
  have re : ∀ c : Nat, X0 ++ (List.replicate i 32 ++ ([c] ++ (List.replicate j 32 ++ Y))) = (X0 ++ List.replicate i 32) ++ c :: (List.replicate j 32 ++ Y) := fun c => by simp
  show if g = "&" then QT _ _ _ else QL _ _ _
  by_cases e : g = "&"
  · rw [if_pos e]
    rw [show cs g = [38] by rw [e]; exact c38, re, e]
    refine QT.amp ?_ ?_
    · have := (hx e).sp 0 i
      simpa using this
    · have := (hy1 e).sp j 0
      simpa using this
  · rw [if_neg e]
    have hX0 : X0 = x := by rw [← hX, decide_eq_false e, Bool.false_and]; rfl
    have pa : QL (d + 1) a (X0 ++ List.replicate i 32) := by
      have := (ha.pl.up (Nat.le_succ d)).sp 0 i
      rw [hX0]
      simpa using this
    have pb : QT (d + 1) b (List.replicate j 32 ++ Y) := by
      have := hy0.sp j 0
      simpa using this
    rcases hg with e1 | e1 | e1
    · exact absurd e1 e
    · rw [show cs g = [124] by rw [e1]; exact c124, re, e1, ← e124]
      exact pa.bin pb (.inl rfl)
    · rw [show cs g = [45] by rw [e1]; exact c45, re, e1, ← e45]
      exact pa.bin pb (.inr rfl)
theorem Says.up {d e : Nat} {t : Tr} {x : S} (h : Says d t x) (l : d ≤ e) : Says e t x := by
  cases t with
  | word w => exact (show QS _ _ _ from h).up l
  | road r t => exact (show QS _ _ _ from h).up l
  | bin g a b =>
    have h : if g = "&" then QT d (.bin g a b) x else QL d (.bin g a b) x := h
    show if g = "&" then QT e (.bin g a b) x else QL e (.bin g a b) x
    split at h
    · rw [if_pos ‹_›]; exact h.up l
    · rw [if_neg ‹_›]; exact h.up l
theorem says_word {w : Str} (o : Ok (.word w)) : QS 0 (.word w) (cs w) := by
  have := QS_word (w := cs w) o.1 o.2.1 (by rw [of_cs]; exact o.2.2.1) (by rw [of_cs]; exact o.2.2.2)
  rw [of_cs] at this
  exact this
theorem says_lt : ∀ (t : Tr), Ok t → Says (dep t) t (cs (lt t))
  | .word w, o => says_word o
  | .road r t, o => by
    have ih := says_lt t o.2.2.2
    have := ih.pl.road (w := cs r) o.1 o.2.1 (by rw [of_cs]; exact o.2.2.1) 0
    rw [of_cs] at this
    have e : cs (lt (.road r t)) = cs r ++ (List.replicate 0 32 ++ 40 :: (cs (lt t) ++ [41])) := by
      show cs (r ++ "(" ++ lt t ++ ")") = _
      rw [cs_app, cs_app, cs_app, c40, c41]
      simp
    rw [e]
    exact this
  | .bin g a b, o => by
    have h1 := (says_lt a o.2.1).up (Nat.le_max_left (dep a) (dep b))
    have h2 := (says_lt b o.2.2).up (Nat.le_max_right (dep a) (dep b))
    have := says_bin 1 1 o h1 h2
    have e : cs (lt (.bin g a b)) = (if decide (g = "&") && isL a then 40 :: (cs (lt a) ++ [41]) else cs (lt a)) ++ (List.replicate 1 32 ++ (cs g ++ (List.replicate 1 32 ++ (if isL b || (decide (g = "&") && isA b) then 40 :: (cs (lt b) ++ [41]) else cs (lt b))))) := by
      show cs (par (decide (g = "&") && isL a) (lt a) ++ " " ++ g ++ " " ++ par (isL b || (decide (g = "&") && isA b)) (lt b)) = _
      rw [cs_app, cs_app, cs_app, cs_app, cs_par, cs_par, c32]
      simp
    rw [e]
    exact this
/-- the text of a tree, as the program makes it -/
def tt : Tr → Str
  | .word w => w
  | .road r t => r ++ "(" ++ tt t ++ ")"
  | .bin g a b => if g = "&" then par (isL a) (tt a) ++ " & " ++ par (isL b || isA b) (tt b) else tt a ++ ((" " : Str) ++ g ++ " ") ++ par (isL b) (tt b)
theorem tt_lt : ∀ t : Tr, tt t = lt t
  | .word w => rfl
  | .road r t => by
    show r ++ "(" ++ tt t ++ ")" = r ++ "(" ++ lt t ++ ")"
    rw [tt_lt t]
  | .bin g a b => by
    show (if g = "&" then par (isL a) (tt a) ++ " & " ++ par (isL b || isA b) (tt b) else tt a ++ ((" " : Str) ++ g ++ " ") ++ par (isL b) (tt b)) = par (decide (g = "&") && isL a) (lt a) ++ " " ++ g ++ " " ++ par (isL b || (decide (g = "&") && isA b)) (lt b)
    rw [tt_lt a, tt_lt b]
    refine str_cs ?_
    by_cases e : g = "&"
    · rw [if_pos e, decide_eq_true e, Bool.true_and, Bool.true_and, cs_app, cs_app, cs_app, cs_app, cs_app, cs_app, e, c38, c32, show cs " & " = [32, 38, 32] by decide +kernel]
      simp
    · rw [if_neg e, decide_eq_false e, Bool.false_and, Bool.false_and, Bool.or_false, cs_app, cs_app, cs_app, cs_app, cs_app, cs_app, cs_app, cs_app, c32, show par false (lt a) = lt a from rfl]
      simp
end AQ

set_option Elab.async false
set_option linter.all false
set_option maxRecDepth 100000
set_option maxHeartbeats 4000000
/-! sorted of a tuple of texts. -/
namespace FS
open PySem PySem.Spec PyProof.Rows L2
section
variable {prog : Program} {w : World} {A : Around} {E : Value → Shared → Prop} {s : Shared}
theorem sorted_tup {l : Addr} {o : Obj} {vs : List Value} {n : Nat} {ss : List Str} {Q : Value → Shared → Prop} (ho : s.heap.get? l = some o) (hc : o.cls = .type "tuple") (hd : o.data = .seq vs.toArray n) (hS : StrsAre vs ss) (few : vs.length < 64)
    (fin : ∀ (h1 h' : Heap) out ys e, (∀ b o, s.heap.get? b = some o → h1.get? b = some o) → (∀ b o, h1.get? b = some o → h'.get? b = some o) → h'.get? h1.objs.size = some (seqObj "list" out e) → StrsAre out.toList ys → ys.Perm ss → sortedS ys = true → Q (.ref h1.objs.size) { s with heap := h' }) :
    wpAny (model prog w) A (call (.builtin "sorted") [.ref l]) Q E s := by
  have line : vs.toArray.size ≤ sizeLine := by rw [List.size_toArray]; exact Nat.le_of_lt (small1000 (by omega))
  refine Calls.call_function_entry kind_sorted plain_sorted entry_sorted (args_sorted1 _) ?_
  show wpAny _ _ (do checkCount "sorted" 1 1 1; let l ← newList (← collect (.ref l)); let _ ← holding [l] (call (.builtin "list.sort") [l] []); ret l) _ _ _
  refine wpAny_bind (m := checkCount "sorted" 1 1 1) (wpAny_pure (wpAny_bind (wpAny_collect_seq l (.inr rfl) ho hc hd (fun h1 k1 => wpAny_bind (wpAny_newList ?_)) line)))
  have at1 : (h1.push (seqObj "list" vs.toArray 0)).get? h1.objs.size = some (seqObj "list" vs.toArray 0) := Heap.get?_push_size _ rfl
  refine wpAny_bind (wpAny_holding (wpAny_call_entry slot_list_sort ⟨_, at1, rfl⟩ entry_list_sort (list_sort_treeK strKind_oneLt at1 hS.keysOf (fun a b r e => keyKind_strs (by rw [← e]; exact hS)) few fun st hp hs => ⟨_, rfl, ?_⟩) (args_list_sort _)))
  obtain ⟨ys, q1, q2, q3⟩ := sorted_out_str hS hp hs
  obtain ⟨e, at2⟩ := sortedHeap_at (out := (arrOf st).map (·.2)) at1
  refine wpAny_pure ⟨_, rfl, fin h1 _ _ ys e k1 (fun b ob hb => ?_) at2 q1 q2 q3⟩
  have lb := Heap.lt_size hb
  rw [sortedHeap_old (Nat.ne_of_lt lb) (by rw [size_push']; exact Nat.lt_succ_of_lt lb)]
  exact Heap.get?_push_of_some _ hb
end
section
variable {X : Cx}
theorem cr_sortedT : CallR X (.builtin "sorted") (fun vs H Q => ∃ (a : Addr) (xs : List Str), vs = [V.ref a] ∧ SqT X.K H a (xs.map V.str) ∧ xs.length < 64 ∧ ∀ (ys : List Str) (p : Addr) (H' : Hp), ys.Perm xs → sortedS ys = true → Same H H' → H p = none → H' p = some (.lst (ys.map V.str)) → Q (.ref p) H') := by
  intro pins s σ H vs us Q I r h
  obtain ⟨a, xs, rfl, ht, few, q⟩ := h
  obtain ⟨its, rv, ⟨o, ho, hc, n, hd⟩, line⟩ := I.tuple ht
  rw [Vals.ref1 r]
  have len := rv.length
  rw [List.length_map] at len
  refine sorted_tup ho hc hd rv.strs (by omega) fun h1 h' out ys e keep keep2 at_p so per srt => ?_
  have I1 : Inv X pins σ H { s with heap := h1 } := I.kept (t' := s.toks) keep
  have small : (ys.map V.str).length ≤ sizeLine := by rw [List.length_map, per.length_eq]; exact small64 few
  have nf : H h1.objs.size = none := I1.hok.fresh (Nat.le_refl _)
  refine ⟨.ref h1.objs.size, upd H h1.objs.size (.lst (ys.map V.str)), I1.laid (t' := s.toks) keep2 (Nat.le_refl _) ⟨small, out.toList, e, vals_of_strs so, at_p⟩, rfl, q ys _ _ per srt (same_new nf) nf upd_same⟩
theorem cr_sortedL : CallR X (.builtin "sorted") (fun vs H Q => ∃ (a : Addr) (xs : List Str), vs = [V.ref a] ∧ SqL X.K H a (xs.map V.str) ∧ xs.length < 64 ∧ ∀ (ys : List Str) (p : Addr) (H' : Hp), ys.Perm xs → sortedS ys = true → Same H H' → H p = none → H' p = some (.lst (ys.map V.str)) → Q (.ref p) H') := fun pins s σ H vs us Q I r ⟨a, xs, e, h, few, q⟩ =>
  cr_sortedS pins s σ H vs us Q I r ⟨a, xs, e, h, few, fun ys p per srt np => q ys p _ per srt (same_new np) np upd_same⟩
end
end FS

set_option Elab.async false
set_option linter.all false
set_option maxRecDepth 100000
set_option maxHeartbeats 4000000
/-! Comprehensions over a tuple whose values are known one by one. -/
namespace FS
open PySem PySem.Spec PyProof.Rows L2
theorem same_tup {K : PySem.W.Frag} {H H' : Hp} {a : Addr} {xs : List V} (e : Same H H') (h : SqT K H a xs) : SqT K H' a xs := by
  rcases h with (h | ⟨o, h⟩) | h
  · exact .inl (.inl (e _ _ h))
  · exact .inl (.inr ⟨o, e _ _ h⟩)
  · exact .inr h
section
variable {X : Cx} {e : Expr} {K : PySem.W.Frag}
/-- [e for x in t], t a tuple: the values are ws, and making them changes nothing that stood -/
def tCW (K : PySem.W.Frag) (tl te : TE) (j : Nat) : TE := fun σ H Q => tl σ H fun x H1 => ∃ (l : Addr) (xs ws : List V), x = .ref l ∧ SqT K H1 l xs ∧ xs.length ≤ 1000 ∧ j < σ.length ∧ ws.length = xs.length ∧
  (∀ (i : Nat) (x v : V) (τ : L2.St) (H2 : Hp) (Q' : VK), xs[i]? = some x → ws[i]? = some v → Same H1 H2 → τ[j]? = some (some x) → (∀ H3, Same H2 H3 → Q' v H3) → te τ H2 Q') ∧ ∀ D H', Same H1 H' → H1 D = none → H' D = some (.lst ws) → Q (.ref D) H'
theorem cw_of {tl te : TE} {j : Nat} (hm : ∀ σ H (Q Q' : VK), (∀ v H, Q v H → Q' v H) → tl σ H Q → tl σ H Q') (σ : L2.St) (H : Hp) (Q : VK) (h : tCW K tl te j σ H Q) : tLc (iTup K tl) (gName j) tYes te [j] σ H Q := by
  refine hm σ H _ _ (fun x H1 hx => ?_) h
  obtain ⟨l, xs, ws, ex, hl, hz, hj, lw, hv, q⟩ := hx
  refine ⟨l, ex, ⟨xs, hl⟩, fun D hD => ?_⟩
  refine lc_tup (xs := xs) (fun i H' => Same H1 H' ∧ H' D = some (.lst (ws.take i))) ⟨same_new hD, upd_same⟩ (fun _ _ _ h => same_tup h.1 hl) (fun i x H2 hx hh => ?_) (fun H2 hh => ?_)
  · obtain ⟨s2, e2⟩ := hh
    have hi : i < xs.length := (List.getElem?_eq_some_iff.mp hx).1
    have hwi : ws[i]? = some (ws[i]'(by omega)) := List.getElem?_eq_getElem (by omega)
    refine ⟨by simp [wipe], hv i x _ _ H2 _ hx hwi s2 (by simp [wipe, hj]) fun H3 s3 => ⟨_, s3 _ _ e2, ?_, fun b o eb => ?_, ?_⟩⟩
    · rw [List.length_take]
      exact small1000 (by omega)
    · rw [upd_ne (ne_of_none eb hD)]
      exact s3 _ _ (s2 _ _ eb)
    · rw [upd_same, List.take_add_one, hwi]
      rfl
  · obtain ⟨s2, e2⟩ := hh
    refine q D H2 s2 hD ?_
    rw [e2, ← lw, List.take_length]
theorem pe_cw {tl te : TE} {j : Nat} (h : PE X e (tLc (iTup K tl) (gName j) tYes te [j])) (hm : ∀ σ H (Q Q' : VK), (∀ v H, Q v H → Q' v H) → tl σ H Q → tl σ H Q') : PE X e (tCW K tl te j) := pe_imp h fun σ H Q q => cw_of hm σ H Q q
/-- the same over a list -/
def tCWl (K : PySem.W.Frag) (tl te : TE) (j : Nat) : TE := fun σ H Q => tl σ H fun x H1 => ∃ (l : Addr) (xs ws : List V), x = .ref l ∧ SqL K H1 l xs ∧ xs.length ≤ 1000 ∧ j < σ.length ∧ ws.length = xs.length ∧
  (∀ (i : Nat) (x v : V) (τ : L2.St) (H2 : Hp) (Q' : VK), xs[i]? = some x → ws[i]? = some v → Same H1 H2 → τ[j]? = some (some x) → (∀ H3, Same H2 H3 → Q' v H3) → te τ H2 Q') ∧ ∀ D H', Same H1 H' → H1 D = none → H' D = some (.lst ws) → Q (.ref D) H'
theorem cwl_of {tl te : TE} {j : Nat} (hm : ∀ σ H (Q Q' : VK), (∀ v H, Q v H → Q' v H) → tl σ H Q → tl σ H Q') (σ : L2.St) (H : Hp) (Q : VK) (h : tCWl K tl te j σ H Q) : tLc (iList K tl) (gName j) tYes te [j] σ H Q := by
  refine hm σ H _ _ (fun x H1 hx => ?_) h
  obtain ⟨l, xs, ws, ex, hl, hz, hj, lw, hv, q⟩ := hx
  refine ⟨l, ex, ⟨xs, hl⟩, fun D hD => ?_⟩
  refine lc_list (xs := xs) (fun i H' => Same H1 H' ∧ H' D = some (.lst (ws.take i))) ⟨same_new hD, upd_same⟩ (fun _ _ _ h => h.1.seq hl) (fun i x H2 hx hh => ?_) (fun H2 hh => ?_)
  · obtain ⟨s2, e2⟩ := hh
    have hi : i < xs.length := (List.getElem?_eq_some_iff.mp hx).1
    have hwi : ws[i]? = some (ws[i]'(by omega)) := List.getElem?_eq_getElem (by omega)
    refine ⟨by simp [wipe], hv i x _ _ H2 _ hx hwi s2 (by simp [wipe, hj]) fun H3 s3 => ⟨_, s3 _ _ e2, ?_, fun b o eb => ?_, ?_⟩⟩
    · rw [List.length_take]
      exact small1000 (by omega)
    · rw [upd_ne (ne_of_none eb hD)]
      exact s3 _ _ (s2 _ _ eb)
    · rw [upd_same, List.take_add_one, hwi]
      rfl
  · obtain ⟨s2, e2⟩ := hh
    refine q D H2 s2 hD ?_
    rw [e2, ← lw, List.take_length]
theorem pe_cwl {tl te : TE} {j : Nat} (h : PE X e (tLc (iList K tl) (gName j) tYes te [j])) (hm : ∀ σ H (Q Q' : VK), (∀ v H, Q v H → Q' v H) → tl σ H Q → tl σ H Q') : PE X e (tCWl K tl te j) := pe_imp h fun σ H Q q => cwl_of hm σ H Q q
theorem mono_var {i : Nat} : ∀ (σ : L2.St) (H : Hp) (Q Q' : VK), (∀ v H, Q v H → Q' v H) → tVar i σ H Q → tVar i σ H Q' := fun σ H Q Q' k h => by
  obtain ⟨v, h1, h2⟩ := h
  exact ⟨v, h1, k _ _ h2⟩
end
def rLenQ (K : PySem.W.Frag) : List V → Hp → VK → Prop := fun xs H Q => ∃ p ys, xs = [.ref p] ∧ (SqL K H p ys ∨ SqT K H p ys) ∧ Q (.int ys.length) H
def rListS (K : PySem.W.Frag) : List V → Hp → VK → Prop := fun xs H Q => ∃ p ys, xs = [.ref p] ∧ (SqL K H p ys ∨ SqT K H p ys) ∧ ∀ l H', Same H H' → H l = none → H' l = some (.lst ys) → Q (.ref l) H'
def rSortT (K : PySem.W.Frag) : List V → Hp → VK → Prop := fun vs H Q => ∃ (a : Addr) (xs : List Str), vs = [V.ref a] ∧ SqT K H a (xs.map V.str) ∧ xs.length < 64 ∧ ∀ (ys : List Str) (p : Addr) (H' : Hp), ys.Perm xs → sortedS ys = true → Same H H' → H p = none → H' p = some (.lst (ys.map V.str)) → Q (.ref p) H'
def rSortL (K : PySem.W.Frag) : List V → Hp → VK → Prop := fun vs H Q => ∃ (a : Addr) (xs : List Str), vs = [V.ref a] ∧ SqL K H a (xs.map V.str) ∧ xs.length < 64 ∧ ∀ (ys : List Str) (p : Addr) (H' : Hp), ys.Perm xs → sortedS ys = true → Same H H' → H p = none → H' p = some (.lst (ys.map V.str)) → Q (.ref p) H'
theorem eqv_txs : ∀ (a b : List Str), PyData.eqv (.list (a.map PyData.str)) (.list (b.map PyData.str)) = decide (a = b) := by
  have key : ∀ a b : List Str, PyData.eqvAll (a.map PyData.str) (b.map PyData.str) = decide (a = b) := by
    intro a
    induction a with
    | nil =>
      intro b
      cases b with
      | nil => simp [PyData.eqvAll]
      | cons y q => simp [PyData.eqvAll]
    | cons x r ih =>
      intro b
      cases b with
      | nil => simp [PyData.eqvAll]
      | cons y q =>
        simp only [List.map_cons, PyData.eqvAll, ih]
        by_cases e : x = y
        · subst e; simp [PyData.eqv]
        · simp [PyData.eqv, e]
  intro a b
  simp only [PyData.eqv, key]
theorem shaped_txs (a : List Str) (ha : ∀ z ∈ a, PyData.strOk z = true) : SeqAt.shaped (.list (a.map PyData.str)) = true := by
  have k1 : ∀ a : List Str, (∀ z ∈ a, PyData.strOk z = true) → PyData.canLayAll0 (a.map PyData.str) = true := by
    intro a
    induction a with
    | nil => simp [PyData.canLayAll0]
    | cons x r ih => intro h; simp [PyData.canLayAll0, PyData.canLay0, ih (fun z hz => h z (List.mem_cons_of_mem _ hz)), h x (List.mem_cons_self ..)]
  have k2 : ∀ a : List Str, PyData.depthAll (a.map PyData.str) = 0 := by
    intro a
    induction a with
    | nil => simp [PyData.depthAll]
    | cons x r ih => simp [PyData.depthAll, PyData.depth, ih]
  simp [SeqAt.shaped, PyData.canLay0, PyData.depth, k1 a ha, k2]
theorem dp_txs {K : PySem.W.Frag} {H : Hp} : ∀ (l : List Str), DpAll K H (l.map V.str) (l.map PyData.str)
  | [] => .nil
  | x :: r => .cons (.str x) (dp_txs r)
theorem dp_list {K : PySem.W.Frag} {H : Hp} {a : Addr} {l : List Str} (h : SqL K H a (l.map V.str)) : Dp K H (.ref a) (.list (l.map PyData.str)) := .lst h (dp_txs l)
end FS

set_option Elab.async false
set_option linter.all false
set_option maxRecDepth 100000
set_option maxHeartbeats 4000000
/-! tuple(d), d a dict: a new tuple of its keys. -/
namespace FS
open PySem PySem.Calls PySem.Spec PyProof.Rows L2
section
variable {prog : Program} {w : World} {A : Around} {E : Value → Shared → Prop} {s : Shared} {T : String} {r d : Addr} {n : Nat} {P : Nat → Value → Prop} {OK : Heap → Prop}
theorem code_tupS {Q₁ : Value → Shared → Prop} (K : PySem.W.KdlSrc prog w T r d n P OK) (hh : A.handled = none) (hok : OK s.heap) (hn : n ≤ sizeLine)
    (h : ∀ (h' : Heap) (tk : Nat) (acc : Array Value), (∀ b o, s.heap.get? b = some o → h'.get? b = some o) → ItemsOf P acc n → Q₁ (.ref h'.objs.size) { s with heap := h'.push { cls := .type "tuple", data := .seq acc }, toks := tk }) :
    codeAny (model prog w) A (.call (.builtin "tuple.__new__") ⟨[.type "tuple", .ref r], []⟩) (wants Q₁ E) s := by
  refine codeAny_of_tree ?_
  show wpAny _ A.in1 (do checkBuiltinCall "tuple.__new__" ⟨[.type "tuple", .ref r], []⟩; again (.builtin "tuple.__new__" ⟨[.type "tuple", .ref r], []⟩)) _ _ s
  refine wpAny_bind (wpAny_of_eq (F.newCall_tuple_1 _) (wpAny_pure ⟨plainId_quiet F.plain_tuple_new _, codeAny_builtin F.entry_tuple_new ?_⟩))
  rw [Around.under_plainId F.plain_tuple_new _]
  have hsub := sub_tuple_self
  have hinit := init_tuple_lookup
  have hmh := madeHere_tuple
  have hTI : s.TypeIs (.ref r) T := K.type s hok
  have hnt := K.notTuple
  have hnl := K.notList
  have hh1 : A.in1.handled = none := hh
  wp_walk using wpAny_typeOf hTI, PySem.W.kdu_collect (A := A.in1) K hh1 hok hn
  intro h' tk acc hk hacc
  show wpAny _ _ (Builtin.Tuple.tupleExact acc.toList.toArray >>= fun v => ret v) _ _ _
  unfold Builtin.Tuple.tupleExact
  refine wpAny_bind (wpAny_newObj_type ?_ (by show acc.toList.toArray.size ≤ sizeLine; simp only [Array.toArray_toList]; rw [hacc.1]; exact hn))
  refine wpAny_pure ?_
  have e : acc.toList.toArray = acc := by simp
  rw [e]
  exact h h' tk acc hk hacc
theorem call_tupS {Q : Value → Shared → Prop} (K : PySem.W.KdlSrc prog w T r d n P OK) (hh : A.handled = none) (hok : OK s.heap) (hn : n ≤ sizeLine)
    (h : ∀ (h' : Heap) (tk : Nat) (acc : Array Value), (∀ b o, s.heap.get? b = some o → h'.get? b = some o) → ItemsOf P acc n → Q (.ref h'.objs.size) { s with heap := h'.push { cls := .type "tuple", data := .seq acc }, toks := tk }) :
    wpAny (model prog w) A (call (.type "tuple") [.ref r]) Q E s := by
  refine callType_codes (Q₁ := fun obj s₁ => s₁.TypeIs obj "tuple" ∧ Q obj s₁) F.called_tuple (F.typeCall_tuple_1 _) F.entry_object_init
    (code_tupS (A := A.in1) K hh hok hn fun h' tk acc hk hacc => ⟨⟨_, Heap.get?_push_size _ rfl, rfl⟩, h h' tk acc hk hacc⟩) fun obj s₁ h₁ => ?_
  exact ⟨h₁.1, F.args_object_init_2 obj _, object_init_meets F.called_tuple.init.lookup F.called_tuple.made (by decide) prog w A.in1 _ s₁ ⟨h₁.1, rfl, h₁.2⟩⟩
end
def rTupD : List V → Hp → VK → Prop := fun xs H Q => ∃ p kvs, xs = [.ref p] ∧ H p = some (.dK kvs) ∧ ∀ q, H q = none → Q (.ref q) (upd H q (.tup (kvs.map fun kv => kV kv.1)))
theorem call_tuple_dK {X : Cx} (hc : X.calm = true) : CallR X (.type "tuple") rTupD := by
  intro pins s σ H xs us Q I r h
  obtain ⟨p, kvs, e, hk, q⟩ := h
  subst e
  obtain ⟨u, eu, rx⟩ := vals1 r
  subst eu
  obtain rfl : u = Value.ref p := rx
  obtain ⟨z, lo, vs, rk, hd⟩ := (show ObjOk X.prog X.w H s.heap p (.dK kvs) from I.hok p _ hk)
  obtain ⟨ep, hat⟩ := hd.dictAt
  have hl : kvs.length = vs.length := Paired.length rk
  refine call_tupS (PySem.W.kdl_dict (knd := mixKind X.prog X.w) (kvs := vs) (ep := ep) lo) (I.ok.hd hc) hat (by rw [← hl]; exact z) fun h' tk acc' hkeep hacc => ?_
  have I2 : Inv X pins σ H { s with heap := h', toks := tk } := I.kept hkeep
  refine ⟨.ref h'.objs.size, upd H h'.objs.size (.tup (kvs.map fun kv => kV kv.1)), I2.laid (t' := tk) (fun c o e => Heap.get?_push_of_some _ e) (Nat.le_refl _) (show ObjOk X.prog X.w _ _ _ (.tup (kvs.map fun kv => kV kv.1)) from ⟨?_, acc'.toList, ?_, ?_⟩), rfl, q _ (I2.hok.fresh (Nat.le_refl _))⟩
  · rw [List.length_map]; exact z
  · have el : acc'.toList.length = acc'.size := by simp
    refine vals_of_at (by rw [List.length_map, el, hacc.1, hl]) fun j x w h1 h2 => ?_
    obtain ⟨k, y, hky, hi⟩ := hacc.2 j w (by rw [← Array.getElem?_toList]; exact h2)
    have e1 : (kvs.map (·.1))[j]? = some k := by
      rw [KV.keys rk, List.getElem?_map, hky] <;> rfl
    have e2 : (kvs.map fun kv => kV kv.1)[j]? = some (kV k) := by
      have e3 : (kvs.map fun kv => kV kv.1) = (kvs.map (·.1)).map kV := by rw [List.map_map] <;> rfl
      rw [e3, List.getElem?_map, e1] <;> rfl
    rw [e2] at h1
    cases h1
    exact keyIs_rel hi
  · rw [Array.toArray_toList]; exact IsTup.new _ _
end FS

set_option Elab.async false
set_option linter.all false
set_option maxRecDepth 100000
set_option maxHeartbeats 4000000
/-! o.f as one of several targets. -/
namespace FS
open PySem PySem.Calls PySem.Spec PyProof.Rows L2
section
variable {X : Cx} {o : Expr} {to : TE} {f : Str} {pos : Pos}
def gFld (K : PySem.W.Frag) (to : TE) (f : Str) : TG := fun v σ H Q => to σ H fun x H2 => ∃ a C dx fs, x = .ref a ∧ H2 a = some (.ins C dx fs) ∧ Cls K C ∧ NoAttr K C f ∧ fs.length < 1000 ∧ Q σ (upd H2 a (.ins C dx (putF f v fs)))
theorem pg_fld (ho : PE X o to) : PG X (.Attribute o f pos) (gFld X.K to f) := by
  refine ⟨fun pins s σ H v u Q I r h => ?_⟩
  rw [PySem.assign_Attribute]
  refine wpAny_bind (wpAny_holding (thn (ho.run pins s σ H _ I h) fun ov s1 ⟨x, H1, I1, r1, a, C, dx, fs, ex, ea, c, n, l, q⟩ => ?_))
  subst ex
  obtain rfl : ov = Value.ref a := r1
  refine wpAny_bind (wpAny_standAt (wpAny_bind (wpAny_holding (setattr_ok (I1.tok _) ea c n l r fun s3 I3 => ?_))))
  exact wpAny_release ⟨σ, _, I3, q⟩
end
def f3 (a b c : V) : List (Str × V) := [("pieces", a), ("kind", b), ("rows", c)]
def f2 (a b : V) : List (Str × V) := [("pieces", a), ("kind", b)]
theorem l1 (a b c : V) : (f3 a b c).lookup ("kind" : Str) = some b := by rfl
theorem l2 (a b c : V) : putF "kind" c (f3 a b c) = f3 a c c := by rfl
theorem l3 (a b c : V) : putF "rows" c (f2 a b) = f3 a b c := by rfl
end FS

set_option Elab.async false
set_option linter.all false
set_option maxRecDepth 100000
set_option maxHeartbeats 4000000
/-! The parts of a question. -/
namespace AQ
open PySem PySem.Spec PyProof.Rows L2 L2.FK FS TX
abbrev sAsk (i : Nat) : Stmt := TX.top (62 + i)
abbrev sPt (j : Nat) : Stmt := inClass (TX.top 64) j
structure TQ (K : PySem.W.Frag) (mg : Str → Option Value) (aWO aRD aLS aSG CPt : Addr) : Prop where
  gW : mg "WORDS" = some (.ref aWO)
  kW : KT K aWO (WORDS.map V.str)
  gR : mg "ROADS" = some (.ref aRD)
  kR : KT K aRD (ROADS.map V.str)
  gS : mg "LOOSE_SIGNS" = some (.ref aLS)
  kS : KT K aLS (LOOSE.map V.str)
  gG : mg "SIGNS" = some (.ref aSG)
  kG : KT K aSG ((["&", "|", "-"] : List Str).map V.str)
  gL : ∃ t, mg "LONGEST" = some (.int 200 t)
  gO : ∃ t, mg "MOST_OPEN" = some (.int 8 t)
  zm : mg "max" = none
  cP : Cls K CPt
  nT : NoAttr K CPt "text_read"
  nO : NoAttr K CPt "opened"
  nP : NoAttr K CPt "place"
  nW : NoAttr K CPt "word"
/-! ### the state of the parts -/
def pfl (z : Str) (o p : Int) (wd : Str) : List (Str × V) := [("text_read", .str z), ("opened", .int o), ("place", .int p), ("word", .str wd)]
def plc (z : Str) (s : S) : Int := ((cs z).length : Int) - (s.length : Int)
/-- the parts at a: o parentheses are open, s is left -/
def PAt (CPt : Addr) (H : Hp) (a : Addr) (z : Str) (o : Nat) (s : S) : Prop := ∃ dx, H a = some (.ins CPt dx (pfl z o (plc z s) (tok s))) ∧ (cs z).drop ((cs z).length - s.length) = s ∧ s.length ≤ (cs z).length
theorem skip_suf : ∀ s : S, ∃ k, skip s = s.drop k ∧ k ≤ s.length
  | [] => ⟨0, rfl, Nat.le_refl _⟩
  | c :: r => by
    unfold skip
    rw [List.dropWhile_cons]
    split
    · obtain ⟨k, e, l⟩ := skip_suf r
      exact ⟨k + 1, e, by simp; exact l⟩
    · exact ⟨0, rfl, Nat.zero_le _⟩
theorem skip_le (s : S) : (skip s).length ≤ s.length := by
  obtain ⟨k, e, l⟩ := skip_suf s
  rw [e, List.length_drop]
  omega
theorem skip_drop {c : S} {p : Nat} (hp : p ≤ c.length) : c.drop (c.length - (skip (c.drop p)).length) = skip (c.drop p) := by
  obtain ⟨k, e, l⟩ := skip_suf (c.drop p)
  rw [List.length_drop] at l
  rw [e, List.drop_drop, List.length_drop]
  congr 1
  omega
section
variable {P : Program} {w : World} {K : PySem.W.Frag} {mg : Str → Option Value} {base : Heap} {aO aR dF aWO aRD aLS aSG CPt CBQ fBQ : Addr} {es : Array DictEntry} {nF : Nat} {tF : Str → Addr}
/-! ### in_words -/
def spInW : Sp := fun vs H Q _ => ∃ c : Nat, vs = [.str ⟨#[c]⟩] ∧ Q (.bl (inW c)) H
theorem scIW : FnScope ["sign"] ["sign"] (defScope (sAsk 1)) := ⟨rfl, rfl, rfl, by decide +kernel, rfl, by decide +kernel, by decide +kernel⟩
theorem sign_eq (c d : Nat) : decide ((V.str ⟨#[c]⟩) = (V.str ⟨#[d]⟩)) = (c == d) := by
  by_cases h : c = d
  · subst h
    simp
  · rw [show (c == d) = false by simpa using h]
    exact decide_eq_false fun e => h (by have := congrArg (fun s : Str => s.cps.toList) (V.str.inj e); simpa using this)
theorem dot1 : ("." : Str) = ⟨#[46]⟩ := by decide +kernel
theorem sp1 : (" " : Str) = ⟨#[32]⟩ := by decide +kernel
theorem ok_inW {f : Addr} {fd : FuncData} {k : Nat} (F : Fun K "in_words" "in_words" (sAsk 1) f fd) (T : TT K w mg aO aR dF es nF tF) : FnOk P w K mg base CX0 (k + 1) f fd ["sign"] spInW := by
  obtain ⟨tL, gL⟩ := T.gL
  obtain ⟨tD, gD⟩ := T.gD
  refine F.ok scIW (fun vs H Q E h => ?_) (fun cdv A outer s H vs Q E hr h => ?_)
  · obtain ⟨c, rfl, _⟩ := h
    rfl
  · obtain ⟨c, rfl, q⟩ := h
    refine ⟨_, pss_one (ps_ret (pe_or (pe_cmpR op_in_sign (pv 0) (pe_glob rfl gL (v := .str LET) ⟨_, rfl⟩) (by rfl)) (pe_or (pe_cmpR op_in_sign (pv 0) (pe_glob rfl gD (v := .str DIG) ⟨_, rfl⟩) (by rfl)) (pe_one (pe_cmpR op_eq (pv 0) pe_str (nomark _)))))), ?_⟩
    refine ⟨_, rfl, c, LET, rfl, rfl, inL c, rfl, ?_⟩
    unfold inW at q
    cases h1 : inL c with
    | true => rw [h1] at q; exact q
    | false =>
      rw [h1] at q
      refine ⟨_, rfl, c, DIG, rfl, rfl, inD c, rfl, ?_⟩
      cases h2 : inD c with
      | true => rw [h2] at q; exact q
      | false =>
        rw [h2] at q
        refine ⟨_, rfl, rfl, ?_⟩
        rw [dot1, sign_eq]
        exact q
/-! ### Parts.go_to -/
def goFs (z : Str) (p : Nat) (fs : List (Str × V)) : List (Str × V) := putF "word" (.str (tok (skip ((cs z).drop p)))) (putF "place" (.int (plc z (skip ((cs z).drop p)))) fs)
def spGoTo (CPt : Addr) : Sp := fun vs H Q _ => ∃ (a dx : Addr) (p : Nat) (fs : List (Str × V)) (z : Str), vs = [.ref a, .int p] ∧ H a = some (.ins CPt dx fs) ∧ fs.lookup ("text_read" : Str) = some (.str z) ∧ fs.length ≤ 10 ∧ p ≤ (cs z).length ∧ z.length ≤ 1000 ∧
  ∀ H', Off a H H' → H' a = some (.ins CPt dx (goFs z p fs)) → Q .non H'
theorem scGo : FnScope ["self", "place", "text", "end"] ["self", "place"] (defScope (sPt 1)) := ⟨rfl, rfl, rfl, by decide +kernel, rfl, by decide +kernel, by decide +kernel⟩
theorem putF_len {f : Str} {v : V} : ∀ {fs : List (Str × V)}, (putF f v fs).length ≤ fs.length + 1
  | [] => Nat.le_refl _
  | (g, x) :: r => by
    show (if g = f then (g, v) :: r else (g, x) :: putF f v r).length ≤ _
    split
    · simp
    · have := putF_len (f := f) (v := v) (fs := r)
      simp
      exact this
theorem pt_imp {X : Cx} {e : Expr} {t t' : TT} (h : PT X e t) (i : ∀ σ H Q, t' σ H Q → t σ H Q) : PT X e t' := ⟨fun pins s σ H Q I q => h.run pins s σ H Q I (i σ H Q q)⟩
def tSkip : TT := fun σ H Q => ∃ (i : Nat) (z : Str), σ[1]? = some (some (.int i)) ∧ σ[2]? = some (some (.str z)) ∧ z.length ≤ 1000 ∧ Q ((cs z)[i]? == some 32) H
def isWd : Option Nat → Bool
  | some c => inW c
  | none => false
def tWd : TT := fun σ H Q => ∃ (i : Nat) (z : Str), σ[3]? = some (some (.int i)) ∧ σ[2]? = some (some (.str z)) ∧ z.length ≤ 1000 ∧ Q (isWd (cs z)[i]?) H
theorem skip_at {c : S} {i : Nat} : (c[i]? == some 32) = true → skip (c.drop i) = skip (c.drop (i + 1)) := fun h => by
  have h : c[i]? = some 32 := by simpa using h
  rw [List.drop_eq_getElem_cons (List.getElem?_eq_some_iff.mp h).1, (List.getElem?_eq_some_iff.mp h).2]
  show List.dropWhile _ _ = _
  rw [List.dropWhile_cons, if_pos (by decide)]
  rfl
theorem skip_end {c : S} {i : Nat} : (c[i]? == some 32) = false → skip (c.drop i) = c.drop i := fun h => by
  have h : c[i]? ≠ some 32 := by simpa using h
  cases e : c[i]? with
  | none => rw [List.drop_of_length_le (List.getElem?_eq_none_iff.mp e)]; rfl
  | some d =>
    rw [e] at h
    rw [List.drop_eq_getElem_cons (List.getElem?_eq_some_iff.mp e).1, (List.getElem?_eq_some_iff.mp e).2]
    exact skip_ne (fun q => h (by rw [q])) _
theorem wd_at {c : S} {j : Nat} : isWd c[j]? = true → ((c.drop j).takeWhile inW).length = 1 + ((c.drop (j + 1)).takeWhile inW).length ∧ j < c.length := fun h => by
  cases e : c[j]? with
  | none => rw [e] at h; cases h
  | some d =>
    rw [e] at h
    have h : inW d = true := h
    refine ⟨?_, (List.getElem?_eq_some_iff.mp e).1⟩
    rw [List.drop_eq_getElem_cons (List.getElem?_eq_some_iff.mp e).1, (List.getElem?_eq_some_iff.mp e).2, List.takeWhile_cons, h, if_pos rfl, List.length_cons]
    omega
theorem wd_end {c : S} {j : Nat} : isWd c[j]? = false → ((c.drop j).takeWhile inW).length = 0 := fun h => by
  cases e : c[j]? with
  | none => rw [List.drop_of_length_le (List.getElem?_eq_none_iff.mp e)]; rfl
  | some d =>
    rw [e] at h
    have h : inW d = false := h
    rw [List.drop_eq_getElem_cons (List.getElem?_eq_some_iff.mp e).1, (List.getElem?_eq_some_iff.mp e).2, List.takeWhile_cons, h]
    rfl
theorem b_max : bootBuiltins "max" = some (.builtin "max") := by decide +kernel
theorem ok_goTo {f fI : Addr} {fd fdI : FuncData} (F : Fun K "go_to" "Parts.go_to" (sPt 1) f fd) (T : TQ K mg aWO aRD aLS aSG CPt) (zl : mg "len" = none)
    (GI : FnOk P w K mg base CX0 1 fI fdI ["sign"] spInW) (bI : Binds K fdI ["sign"] []) (gI : mg "in_words" = some (.ref fI)) (kI : PySem.W.keepIn K (.ref fI) = true) : FnOk P w K mg base CX0 2 f fd ["self", "place"] (spGoTo CPt) := by
  refine F.ok scGo (fun vs H Q E h => ?_) (fun cdv A outer s H vs Q E hr h => ?_)
  · obtain ⟨a, dx, p, fs, z, rfl, _⟩ := h
    rfl
  · obtain ⟨a, dx, p, fs, z, rfl, ha, hl, lf, hp, hz, q⟩ := h
    have hr1 : Room 1 _ := hr.mono (by decide)
    have hzs : ∀ {y : Str}, y.length ≤ 1000 → y.length ≤ sizeLine := fun h => Nat.le_trans h (by decide)
    refine ⟨_, pss_cons (ps_set (i := 2) scGo.nd rfl (.inl rfl) (pe_fld (pv 0) rfl))
      (pss_cons (ps_while PassesOwn.never (pt_imp (t' := tSkip) (PW.pt (pw_and (pt_cmpR op_lt (pv 1) (pe_callB call_len_str (by rfl) zl PySem.boot_len (pa_cons (pv 2) pa_nil)) (nomark _)) (pw_and1 (pt_cmpR op_eq (pe_ix ix_str (pv 2) (pv 1) (fun _ _ => rfl)) pe_str (nomark _))))) ?sk)
          (pss_one (ps_aug (i := 1) scGo.nd rfl (.inl rfl) pe_int ip_add)))
      (pss_cons (ps_set (i := 3) scGo.nd rfl (.inl rfl) (pv 1))
      (pss_cons (ps_while PassesOwn.never (pt_imp (t' := tWd) (PW.pt (pw_and (pt_cmpR op_lt (pv 3) (pe_callB call_len_str (by rfl) zl PySem.boot_len (pa_cons (pv 2) pa_nil)) (nomark _)) (pw_and1 (pt_val (pe_call GI hr1 rfl gI kI bI .nil pass0 (pa_cons (pe_ix ix_str (pv 2) (pv 3) (fun _ _ => rfl)) pa_nil)))))) ?wd)
          (pss_one (ps_aug (i := 3) scGo.nd rfl (.inl rfl) pe_int ip_add)))
      (pss_cons (ps_fld (pv 0) (pv 1) rfl)
      (pss_one (ps_fld (pv 0) (pe_slice sl_str (pv 2) (po_some (pv 1)) (po_some (pe_callB (call_max2 rfl) (by rfl) T.zm b_max (pa_cons (pv 3) (pa_cons (pe_op op_add (pv 1) pe_int) pa_nil))))) rfl)))))), ?_⟩
    case sk =>
      rintro σ H Q ⟨i, y, h1, h2, hy, q⟩
      refine ⟨.int i, h1, .str y, h2, y, rfl, hzs hy, _, _, rfl, rfl, _, rfl, ?_⟩
      rcases Nat.lt_or_ge i (cs y).length with lt | ge
      · have e : (cs y)[i]? = some ((cs y)[i]) := List.getElem?_eq_getElem lt
        rw [decide_eq_true (by have := (show (cs y).length = y.length from len_cps y); show (i : Int) < (y.length : Int); omega)]
        refine iteT ⟨.str y, h2, .int i, h1, y, _, _, rfl, rfl, hzs hy, atI_nat e, rfl, _, rfl, ?_⟩
        rw [sp1, sign_eq]
        rw [e] at q
        exact q
      · have e : (cs y)[i]? = none := List.getElem?_eq_none_iff.mpr ge
        rw [decide_eq_false (by have := (show (cs y).length = y.length from len_cps y); show ¬ (i : Int) < (y.length : Int); omega)]
        rw [e] at q
        exact iteF q
    case wd =>
      rintro σ H Q ⟨i, y, h1, h2, hy, q⟩
      refine ⟨.int i, h1, .str y, h2, y, rfl, hzs hy, _, _, rfl, rfl, _, rfl, ?_⟩
      rcases Nat.lt_or_ge i (cs y).length with lt | ge
      · have e : (cs y)[i]? = some ((cs y)[i]) := List.getElem?_eq_getElem lt
        rw [decide_eq_true (by have := (show (cs y).length = y.length from len_cps y); show (i : Int) < (y.length : Int); omega)]
        rw [e] at q
        exact iteT ⟨.str y, h2, .int i, h1, y, _, _, rfl, rfl, hzs hy, atI_nat e, _, rfl, _, rfl, q⟩
      · have e : (cs y)[i]? = none := List.getElem?_eq_none_iff.mpr ge
        rw [decide_eq_false (by have := (show (cs y).length = y.length from len_cps y); show ¬ (i : Int) < (y.length : Int); omega)]
        rw [e] at q
        exact iteF q
    refine ⟨.ref a, rfl, a, CPt, dx, fs, .str z, rfl, ha, T.cP, T.nT, hl, ?_⟩
    refine ⟨fun n σ H' => ∃ i : Nat, σ = [some (.ref a), some (.int i), some (.str z), none] ∧ H' = H ∧ i ≤ (cs z).length ∧ n = (cs z).length - i ∧ skip ((cs z).drop i) = skip ((cs z).drop p), ⟨_, p, rfl, rfl, hp, rfl, rfl⟩, ?_⟩
    rintro n σ H1 ⟨i, rfl, rfl, hi, rfl, es⟩
    refine ⟨i, z, rfl, rfl, hz, ?_⟩
    cases hb : ((cs z)[i]? == some 32) with
    | true =>
      have lt : i < (cs z).length := by
        have h : (cs z)[i]? = some 32 := by simpa using hb
        exact (List.getElem?_eq_some_iff.mp h).1
      refine iteT ⟨fun σ' H' => ∃ m', m' < (cs z).length - i ∧ _, fun _ _ h => h, .int i, rfl, i, 1, rfl, rfl, (cs z).length - (i + 1), by omega, i + 1, rfl, rfl, lt, rfl, ?_⟩
      rw [← skip_at hb]
      exact es
    | false =>
      refine iteF ⟨.int i, rfl, ?_⟩
      rw [skip_end hb] at es
      refine ⟨fun n σ H' => ∃ j : Nat, σ = [some (.ref a), some (.int i), some (.str z), some (.int j)] ∧ H' = H1 ∧ i ≤ j ∧ j ≤ (cs z).length ∧ n = (cs z).length - j ∧ (((cs z).drop i).takeWhile inW).length = (j - i) + (((cs z).drop j).takeWhile inW).length, ⟨_, i, rfl, rfl, Nat.le_refl _, hi, rfl, by omega⟩, ?_⟩
      rintro n σ H2 ⟨j, rfl, rfl, hij, hj, rfl, ew⟩
      refine ⟨j, z, rfl, rfl, hz, ?_⟩
      cases hb2 : isWd (cs z)[j]? with
      | true =>
        obtain ⟨e1, lt⟩ := wd_at hb2
        exact iteT ⟨fun σ' H' => ∃ m', m' < (cs z).length - j ∧ _, fun _ _ h => h, .int j, rfl, j, 1, rfl, rfl, (cs z).length - (j + 1), by omega, j + 1, rfl, rfl, by omega, lt, rfl, by omega⟩
      | false =>
        have e0 := wd_end hb2
        rw [e0] at ew
        have ln : (cs z).length = z.length := len_cps z
        refine iteF ⟨.int i, rfl, .ref a, rfl, a, CPt, dx, fs, rfl, ha, T.cP, T.nP, by omega, ?_⟩
        refine ⟨.str z, rfl, .int i, rfl, _, rfl, .int j, rfl, .int i, rfl, _, _, rfl, rfl, _, _, rfl, _, rfl, z, rfl, hzs hz, .ref a, rfl, a, CPt, dx, _, rfl, upd_same, T.cP, T.nW, (by have := putF_len (f := "place") (v := .int i) (fs := fs); omega), ?_⟩
        have e1 : plc z (skip ((cs z).drop p)) = (i : Int) := by
          unfold plc
          rw [← es, List.length_drop]
          omega
        have e2 : cutS z (some (i : Int)) (some (if (i : Int) + 1 > (j : Int) then (i : Int) + 1 else (j : Int))) = tok (skip ((cs z).drop p)) := by
          rw [← es]
          have em : (if (i : Int) + 1 > (j : Int) then (i : Int) + 1 else (j : Int)) = ((max j (i + 1) : Nat) : Int) := by split <;> omega
          rw [em]
          unfold cutS tok wl
          rw [HT.sIx_nat, HT.sIx_nat, Nat.min_eq_left (show i ≤ z.length by omega), ew]
          refine congrArg (fun l : List Nat => (⟨l.toArray⟩ : Str)) ?_
          by_cases hn : i + 1 ≤ z.length
          · rw [Nat.min_eq_left (by omega)]
            congr 1
            omega
          · have : (cs z).drop i = [] := List.drop_of_length_le (by omega)
            rw [show z.cps.toList.drop i = [] from this, List.take_nil, List.take_nil]
        refine q _ (Off.put.trans Off.put) ?_
        rw [upd_same]
        unfold goFs
        rw [e1, e2]
end
end AQ

set_option Elab.async false
set_option linter.all false
set_option maxRecDepth 100000
set_option maxHeartbeats 4000000
/-! The methods of the parts. -/
namespace AQ
open PySem PySem.Spec PyProof.Rows L2 L2.FK FS TX
theorem same_none {H H' : Hp} {d : Addr} (s : Same H H') (n : H' d = none) : H d = none := by
  cases e : H d with
  | none => rfl
  | some o => rw [s _ _ e] at n; cases n
/-! ### errors with one value -/
def spBad (C : Addr) (f : Str) : Sp := fun vs H Q _ => ∃ (a : Addr) (v : V), vs = [.ref a, v] ∧ H a = some (exo a C none) ∧ ∀ H' d, H d = none → d ≠ a → Off a H H' → H' a = some (exo a C (some d)) → H' d = some (exd d [(f, v)]) → Q .non H'
theorem bad_mk {C : Addr} {f : Str} {v : V} {H : Hp} {W : XK} (h : ∀ d H', H d = none → Same H H' → H' d = some (.xd [(f, v)]) → W (.ref C) (some d) H') :
    [v].length ≤ 1000 ∧ ∀ a, H a = none → spBad C f (.ref a :: ([v] ++ [])) (upd H a (exo a C none)) (fun v H2 => v = .non ∧ ∃ (d : Addr) (fs : List (Str × V)), H2 a = some (exo a C (some d)) ∧ H2 d = some (exd d fs) ∧ H d = none ∧ W (.ref C) (some d) (upd (L2.del H2 a) d (.xd fs))) (fun _ _ _ => False) := by
  refine ⟨by simp, fun a na => ⟨a, v, rfl, upd_same, fun H' d nd da off e1 e2 => ⟨rfl, d, _, e1, e2, ?_, ?_⟩⟩⟩
  · rw [upd_ne da] at nd
    exact nd
  · have nd' : H d = none := by
      rw [upd_ne da] at nd
      exact nd
    refine h d _ nd' (fun b o e => ?_) upd_same
    have b1 : b ≠ d := ne_of_none e nd'
    have b2 : b ≠ a := ne_of_none e na
    rw [upd_ne b1, del_ne b2]
    exact off b o b2 (by rw [upd_ne b2]; exact e)
section
variable {P : Program} {w : World} {K : PySem.W.Frag} {mg : Str → Option Value} {base : Heap} {aO aR dF aWO aRD aLS aSG CPt CBQ fBQ : Addr} {es : Array DictEntry} {nF : Nat} {tF : Str → Addr}
abbrev sBQI : Stmt := inClass (TX.top 5) 0
theorem scBQ : FnScope ["self", "place"] ["self", "place"] (defScope sBQI) := ⟨rfl, rfl, rfl, by decide +kernel, rfl, by decide +kernel, by decide +kernel⟩
theorem ok_badq {f C : Addr} {fd : FuncData} (F : Fun K "__init__" "BadQuestion.__init__" sBQI f fd) (E : EC K mg "BadQuestion" C f) (no0 : PySem.W.findIn K (.ref C) "place" = some none) : FnOk P w K mg base CX0 1 f fd ["self", "place"] (spBad C "place") := by
  refine F.ok scBQ (fun vs H Q E h => ?_) (fun cdv A outer s H vs Q E1 hr h => ?_)
  · obtain ⟨a, v, rfl, _⟩ := h
    rfl
  · obtain ⟨a, v, rfl, ha, k⟩ := h
    refine ⟨_, pss_one (ps_ost (pv 0) (pv 1)), ?_⟩
    exact ⟨v, rfl, .ref a, rfl, a, C, rfl, E.oex, no0, .inl ⟨ha, fun dx n ne => k _ dx n ne (off_first n) upd_same (by rw [upd_ne ne, upd_same])⟩⟩
/-! ### Parts.__init__ -/
def spPtI (CPt : Addr) : Sp := fun vs H Q _ => ∃ a dx z, vs = [.ref a, .str z] ∧ H a = some (.ins CPt dx []) ∧ z.length ≤ 1000 ∧ ∀ H', Off a H H' → PAt CPt H' a z 0 (skip (cs z)) → Q .non H'
theorem scPI : FnScope ["self", "text"] ["self", "text"] (defScope (sPt 0)) := ⟨rfl, rfl, rfl, by decide +kernel, rfl, by decide +kernel, by decide +kernel⟩
theorem ok_ptI {f fG : Addr} {fd fdG : FuncData} (F : Fun K "__init__" "Parts.__init__" (sPt 0) f fd) (T : TQ K mg aWO aRD aLS aSG CPt)
    (GG : FnOk P w K mg base CX0 2 fG fdG ["self", "place"] (spGoTo CPt)) (bG : Binds K fdG ["self", "place"] []) (mG : Meth K CPt "go_to" fG) : FnOk P w K mg base CX0 3 f fd ["self", "text"] (spPtI CPt) := by
  refine F.ok scPI (fun vs H Q E h => ?_) (fun cdv A outer s H vs Q E hr h => ?_)
  · obtain ⟨a, dx, z, rfl, _⟩ := h
    rfl
  · obtain ⟨a, dx, z, rfl, ha, hz, q⟩ := h
    refine ⟨_, pss_cons (ps_fld (pv 0) (pv 1) rfl) (pss_cons (ps_fld (pv 0) pe_int rfl) (pss_one (ps_expr (pe_meth (pv 0) T.cP mG GG hr bG .nil pass0 (pa_cons pe_int pa_nil))))), ?_⟩
    refine ⟨.str z, rfl, .ref a, rfl, a, CPt, dx, [], rfl, ha, T.cP, T.nT, by decide, ?_⟩
    refine ⟨.ref a, rfl, a, CPt, dx, _, rfl, upd_same, T.cP, T.nO, (show 1 < 1000 by decide), ?_⟩
    refine ⟨.ref a, rfl, a, dx, _, rfl, upd_same, rfl, a, dx, 0, _, z, rfl, upd_same, rfl, (show 2 ≤ 10 by decide), Nat.zero_le _, hz, fun H' o e => ?_⟩
    refine q H' ((Off.put.trans Off.put).trans o) ⟨dx, ?_, ?_, ?_⟩
    · exact e
    · exact skip_drop (c := cs z) (p := 0) (Nat.zero_le _)
    · exact skip_le (cs z)
/-! ### Parts.go_on -/
def spGoOn (CPt : Addr) : Sp := fun vs H Q _ => ∃ a z o s, vs = [.ref a] ∧ PAt CPt H a z o s ∧ z.length ≤ 1000 ∧ ∀ H', Off a H H' → PAt CPt H' a z o (adv s) → Q .non H'
theorem scGO : FnScope ["self"] ["self"] (defScope (sPt 2)) := ⟨rfl, rfl, rfl, by decide +kernel, rfl, by decide +kernel, by decide +kernel⟩
theorem tok_len (s : S) : (tok s).length = min (wl s) s.length := by
  show (s.take (wl s)).toArray.size = _
  simp
theorem ok_goOn {f fG : Addr} {fd fdG : FuncData} (F : Fun K "go_on" "Parts.go_on" (sPt 2) f fd) (T : TQ K mg aWO aRD aLS aSG CPt) (zl : mg "len" = none)
    (GG : FnOk P w K mg base CX0 2 fG fdG ["self", "place"] (spGoTo CPt)) (bG : Binds K fdG ["self", "place"] []) (mG : Meth K CPt "go_to" fG) : FnOk P w K mg base CX0 3 f fd ["self"] (spGoOn CPt) := by
  refine F.ok scGO (fun vs H Q E h => ?_) (fun cdv A outer sh H vs Q E hr h => ?_)
  · obtain ⟨a, z, o, s, rfl, _⟩ := h
    rfl
  · obtain ⟨a, z, o, s, rfl, ⟨dx, ha, hd, hs⟩, hz, q⟩ := h
    refine ⟨_, pss_one (ps_expr (pe_meth (pv 0) T.cP mG GG hr bG .nil pass0 (pa_cons (pe_op op_add (pe_fld (pv 0) rfl) (pe_callB call_len_str (by rfl) zl PySem.boot_len (pa_cons (pe_fld (pv 0) rfl) pa_nil))) pa_nil))), ?_⟩
    have ln : (cs z).length = z.length := len_cps z
    have tl := tok_len s
    have hp : plc z s + ((tok s).length : Int) = (((cs z).length - s.length + min (wl s) s.length : Nat) : Int) := by
      unfold plc
      rw [tl]
      omega
    have hdr : (cs z).drop ((cs z).length - s.length + min (wl s) s.length) = s.drop (wl s) := by
      rw [← List.drop_drop, hd]
      by_cases h : wl s ≤ s.length
      · rw [Nat.min_eq_left h]
      · rw [Nat.min_eq_right (by omega), List.drop_length, List.drop_of_length_le (by omega)]
    refine ⟨.ref a, rfl, a, dx, _, rfl, ha, rfl, .ref a, rfl, a, CPt, dx, _, .int (plc z s), rfl, ha, T.cP, T.nP, rfl, .ref a, rfl, a, CPt, dx, _, .str (tok s), rfl, ha, T.cP, T.nW, rfl, tok s, rfl, Nat.le_trans (by omega) (show 1000 ≤ sizeLine by decide), _, _, rfl, rfl, ?_⟩
    refine ⟨a, dx, (cs z).length - s.length + min (wl s) s.length, _, z, ?_, ha, rfl, (show 4 ≤ 10 by decide), by omega, hz, fun H' off e => q H' off ⟨dx, ?_, ?_, ?_⟩⟩
    · show [V.ref a, V.int (plc z s + ((tok s).length : Int))] = _
      rw [hp]
    · unfold goFs at e
      rw [hdr] at e
      exact e
    · unfold adv
      rw [← hdr]
      exact skip_drop (by omega)
    · unfold adv
      have := skip_le (s.drop (wl s))
      rw [List.length_drop] at this
      omega
/-! ### Parts.enter, Parts.leave -/
def spEnter (CPt CBQ : Addr) : Sp := fun vs H Q E => ∃ a z o s, vs = [.ref a] ∧ PAt CPt H a z o s ∧ z.length ≤ 1000 ∧ (tok s = "(" → o ≠ 8 → ∀ H', Off a H H' → PAt CPt H' a z (o + 1) (adv s) → Q .non H') ∧
  (tok s ≠ "(" ∨ o = 8 → ∀ d H', Same H H' → H' d = some (.xd [("place", .int (plc z s))]) → E (.ref CBQ) (some d) H')
def spLeave (CPt CBQ : Addr) : Sp := fun vs H Q E => ∃ a z o s, vs = [.ref a] ∧ PAt CPt H a z (o + 1) s ∧ z.length ≤ 1000 ∧ (tok s = ")" → ∀ H', Off a H H' → PAt CPt H' a z o (adv s) → Q .non H') ∧
  (tok s ≠ ")" → ∀ d H', Same H H' → H' d = some (.xd [("place", .int (plc z s))]) → E (.ref CBQ) (some d) H')
theorem scEn : FnScope ["self"] ["self"] (defScope (sPt 3)) := ⟨rfl, rfl, rfl, by decide +kernel, rfl, by decide +kernel, by decide +kernel⟩
theorem scLv : FnScope ["self"] ["self"] (defScope (sPt 4)) := ⟨rfl, rfl, rfl, by decide +kernel, rfl, by decide +kernel, by decide +kernel⟩
theorem str_ne (x y : Str) : decide (V.str x = V.str y) = decide (x = y) := by
  by_cases h : x = y
  · rw [h]; simp
  · rw [decide_eq_false h, decide_eq_false fun e => h (V.str.inj e)]
theorem int_eq8 (o : Nat) : decide (V.int (o : Int) = V.int 8) = decide (o = 8) := by
  by_cases h : o = 8
  · subst h; rfl
  · rw [decide_eq_false h, decide_eq_false fun e => h (by have := V.int.inj e; omega)]
theorem ok_enter {f fG : Addr} {fd fdG fdB : FuncData} (F : Fun K "enter" "Parts.enter" (sPt 3) f fd) (T : TQ K mg aWO aRD aLS aSG CPt) (U : EC K mg "BadQuestion" CBQ fBQ)
    (GG : FnOk P w K mg base CX0 3 fG fdG ["self"] (spGoOn CPt)) (bG : Binds K fdG ["self"] []) (mG : Meth K CPt "go_on" fG)
    (GB : FnOk P w K mg base CX0 1 fBQ fdB ["self", "place"] (spBad CBQ "place")) (bB : Binds K fdB ["self", "place"] []) : FnOk P w K mg base (L2.CX P w) 4 f fd ["self"] (spEnter CPt CBQ) := by
  obtain ⟨tO, gO⟩ := T.gO
  refine F.okX scEn (fun vs H Q E h => ?_) (fun cdv A outer sh H vs Q E hr h => ?_)
  · obtain ⟨a, z, o, s, rfl, _⟩ := h
    rfl
  · obtain ⟨a, z, o, s, rfl, ⟨dx, ha, hd, hs⟩, hz, q0, q1⟩ := h
    have hr2 : Room 2 _ := hr.mono (by decide)
    refine ⟨_, pss_cons (ps_if (PW.pt (pw_or (pt_cmpR op_ne (pe_fld (pv 0) rfl) pe_str (nomark _)) (pw_or1 (pt_cmpR op_eq (pe_fld (pv 0) rfl) (pe_glob rfl gO (v := .int 8) ⟨_, rfl⟩) (nomark _)))))
          (pss_one (ps_raise rfl (takes_of rfl rfl rfl rfl) (pmk_oex U.oex U.iC U.tI GB hr2 bB .nil pass0 rfl U.gC (pa_cons (pe_fld (pv 0) rfl) pa_nil)))) pss_nil)
      (pss_cons (ps_fldaug (pv 0) pe_int in_add)
      (pss_one (ps_expr (pe_meth0 (pv 0) T.cP mG GG hr bG .nil pass0)))), ?_⟩
    refine ⟨.ref a, rfl, a, CPt, dx, _, (.str (tok s)), rfl, ha, T.cP, T.nW, rfl, rfl, _, rfl, ?_⟩
    rw [show (!decide (V.str (tok s) = V.str "(")) = !decide (tok s = "(") from by rw [str_ne]]
    by_cases h1 : tok s = "("
    · rw [decide_eq_true h1]
      refine iteF (⟨.ref a, rfl, a, CPt, dx, _, (.int o), rfl, ha, T.cP, T.nO, rfl, rfl, _, rfl, ?_⟩)
      rw [int_eq8]
      by_cases h2 : o = 8
      · rw [decide_eq_true h2]
        exact iteT (⟨.ref a, rfl, a, CPt, dx, _, (.int (plc z s)), rfl, ha, T.cP, T.nP, rfl, bad_mk fun d H' nd s' e => q1 (.inr h2) d H' s' e⟩)
      · rw [decide_eq_false h2]
        refine iteF ⟨.ref a, rfl, a, CPt, dx, _, .int o, rfl, ha, T.cP, T.nO, rfl, _, _, rfl, rfl, dx, _, ha, (show 4 < 1000 by decide), ?_⟩
        refine ⟨.ref a, rfl, a, dx, _, rfl, upd_same, rfl, a, z, o + 1, s, rfl, ⟨dx, upd_same, hd, hs⟩, hz, fun H' off e => q0 h1 h2 H' (Off.put.trans off) e⟩
    · rw [decide_eq_false h1]
      exact iteT (iteT (⟨.ref a, rfl, a, CPt, dx, _, (.int (plc z s)), rfl, ha, T.cP, T.nP, rfl, bad_mk fun d H' nd s' e => q1 (.inl h1) d H' s' e⟩))
theorem ok_leave {f fG : Addr} {fd fdG fdB : FuncData} (F : Fun K "leave" "Parts.leave" (sPt 4) f fd) (T : TQ K mg aWO aRD aLS aSG CPt) (U : EC K mg "BadQuestion" CBQ fBQ)
    (GG : FnOk P w K mg base CX0 3 fG fdG ["self"] (spGoOn CPt)) (bG : Binds K fdG ["self"] []) (mG : Meth K CPt "go_on" fG)
    (GB : FnOk P w K mg base CX0 1 fBQ fdB ["self", "place"] (spBad CBQ "place")) (bB : Binds K fdB ["self", "place"] []) : FnOk P w K mg base (L2.CX P w) 4 f fd ["self"] (spLeave CPt CBQ) := by
  refine F.okX scLv (fun vs H Q E h => ?_) (fun cdv A outer sh H vs Q E hr h => ?_)
  · obtain ⟨a, z, o, s, rfl, _⟩ := h
    rfl
  · obtain ⟨a, z, o, s, rfl, ⟨dx, ha, hd, hs⟩, hz, q0, q1⟩ := h
    have hr2 : Room 2 _ := hr.mono (by decide)
    have hr3 : Room 3 _ := hr.mono (by decide)
    refine ⟨_, pss_cons (ps_if (pt_cmpR op_ne (pe_fld (pv 0) rfl) pe_str (nomark _))
          (pss_one (ps_raise rfl (takes_of rfl rfl rfl rfl) (pmk_oex U.oex U.iC U.tI GB hr2 bB .nil pass0 rfl U.gC (pa_cons (pe_fld (pv 0) rfl) pa_nil)))) pss_nil)
      (pss_cons (ps_fld (pv 0) (pe_op op_sub (pe_fld (pv 0) rfl) pe_int) rfl)
      (pss_one (ps_expr (pe_meth0 (pv 0) T.cP mG GG hr3 bG .nil pass0)))), ?_⟩
    refine ⟨.ref a, rfl, a, CPt, dx, _, (.str (tok s)), rfl, ha, T.cP, T.nW, rfl, rfl, _, rfl, ?_⟩
    rw [show (!decide (V.str (tok s) = V.str ")")) = !decide (tok s = ")") from by rw [str_ne]]
    by_cases h1 : tok s = ")"
    · rw [decide_eq_true h1]
      refine iteF (⟨.ref a, rfl, a, CPt, dx, _, (.int (o + 1 : Nat)), rfl, ha, T.cP, T.nO, rfl, _, _, rfl, rfl, .ref a, rfl, a, CPt, dx, _, rfl, ha, T.cP, T.nO, (show 4 < 1000 by decide), ?_⟩)
      have e1 : ((o + 1 : Nat) : Int) - 1 = (o : Int) := by omega
      exact ⟨.ref a, rfl, a, dx, _, rfl, upd_same, rfl, a, z, o, s, rfl, ⟨dx, (by rw [upd_same]; show some (HO.ins CPt dx (pfl z (((o + 1 : Nat) : Int) - 1) (plc z s) (tok s))) = _; rw [e1]), hd, hs⟩, hz, fun H' off e => q0 h1 H' (Off.put.trans off) e⟩
    · rw [decide_eq_false h1]
      exact iteT (⟨.ref a, rfl, a, CPt, dx, _, (.int (plc z s)), rfl, ha, T.cP, T.nP, rfl, bad_mk fun d H' nd s' e => q1 h1 d H' s' e⟩)
end
end AQ

set_option Elab.async false
set_option linter.all false
set_option maxRecDepth 100000
set_option maxHeartbeats 4000000
/-! Questions are read. -/
namespace AQ
open PySem PySem.Spec PyProof.Rows L2 L2.FK FS TX
def rSplitS : V → List V → Hp → VK → Prop := fun x xs H Q => ∃ a b, x = .str a ∧ xs = [.str b] ∧ (b.length == 0) = false ∧ a.length + 2 ≤ sizeLine ∧ ∀ p H', Same H H' → H p = none → H' p = some (.lst ((Txt.split a b).map V.str)) → Q (.ref p) H'
theorem mt_splitQ {X : Cx} : MtR X "str.split" rSplitS := fun pins s σ H x xs v us Q I rx rxs ⟨a, b, e1, e2, h1, h2, q⟩ =>
  mt_split pins s σ H x xs v us Q I rx rxs ⟨a, b, e1, e2, h1, h2, fun p np => q p _ (same_new np) np upd_same⟩
theorem inV_txt (z : Str) : ∀ l : List Str, inV (.str z) (l.map V.str) = l.contains z
  | [] => rfl
  | x :: r => by
    show (eqV (.str x) (.str z) || inV (.str z) (r.map V.str)) = _
    rw [inV_txt z r, List.contains_cons]
    congr 1
    show (x == z) = (z == x)
    exact Bool.beq_comm
/-- a tree in memory -/
def TrAt (tag : Str) (H : Hp) : V → Tr → Prop
  | v, .word w => ∃ q, v = .ref q ∧ H q = some (.tup [.str "word", .str w])
  | v, .road r t => ∃ q u, v = .ref q ∧ H q = some (.tup [.str tag, .str r, u]) ∧ TrAt tag H u t
  | v, .bin g a b => ∃ q x y, v = .ref q ∧ H q = some (.tup [.str g, x, y]) ∧ TrAt tag H x a ∧ TrAt tag H y b
def Tk (H H' : Hp) : Prop := ∀ q xs, H q = some (.tup xs) → H' q = some (.tup xs)
theorem Tk.of {H H' : Hp} (s : Same H H') : Tk H H' := fun q xs e => s _ _ e
theorem Tk.off {H H' : Hp} {a : Addr} (s : Off a H H') {C dx : Addr} {fs : List (Str × V)} (h : H a = some (.ins C dx fs)) : Tk H H' := fun q xs e => s _ _ (ne_of e h fun z => nomatch z) e
theorem TrAt.mono {tag : Str} {H H' : Hp} (k : Tk H H') : ∀ {t : Tr} {v : V}, TrAt tag H v t → TrAt tag H' v t
  | .word w, v, ⟨q, e, h⟩ => ⟨q, e, k _ _ h⟩
  | .road r t, v, ⟨q, u, e, h, i⟩ => ⟨q, u, e, k _ _ h, i.mono k⟩
  | .bin g a b, v, ⟨q, x, y, e, h, i, j⟩ => ⟨q, x, y, e, k _ _ h, i.mono k, j.mono k⟩
theorem PAt.ins {CPt a : Addr} {H : Hp} {z : Str} {o : Nat} {s : S} (h : PAt CPt H a z o s) : ∃ dx fs, H a = some (.ins CPt dx fs) := let ⟨dx, e, _⟩ := h; ⟨dx, _, e⟩
theorem PAt.mono {CPt a : Addr} {H H' : Hp} {z : Str} {o : Nat} {s : S} (h : PAt CPt H a z o s) (k : Same H H') : PAt CPt H' a z o s := let ⟨dx, e, r⟩ := h; ⟨dx, k _ _ e, r⟩
theorem PAt.tk {CPt a : Addr} {H H' : Hp} {z : Str} {o : Nat} {s : S} (h : PAt CPt H a z o s) (k : Off a H H') : Tk H H' := let ⟨dx, fs, e⟩ := h.ins; Tk.off k e
/-- what a reader promises -/
def spRd (CPt CBQ : Addr) (R : Nat → S → Res → Prop) (n : Nat) : Sp := fun vs H Q E => ∃ a z s r, vs = [.ref a] ∧ n ≤ 8 ∧ PAt CPt H a z (8 - n) s ∧ z.length ≤ 200 ∧ R n s r ∧
  (∀ t s', r = .ok t s' → ∀ H' v, Off a H H' → PAt CPt H' a z (8 - n) s' → TrAt "road" H' v t → Q v H') ∧
  (∀ e, r = .er e → ∀ d H', Off a H H' → H' d = some (.xd [("place", .int (plc z e))]) → E (.ref CBQ) (some d) H')
section
variable {P : Program} {w : World} {K : PySem.W.Frag} {mg : Str → Option Value} {base : Heap} {aO aR dF aWO aRD aLS aSG CPt CBQ fBQ : Addr} {es : Array DictEntry} {nF : Nat} {tF : Str → Addr}
/-! ### is_full_name -/
abbrev sFull : Stmt := TX.top 45
def spFull : Sp := fun vs H Q _ => ∃ z, vs = [.str z] ∧ z.length ≤ 900 ∧ ∀ H', Same H H' → Q (.bl (isFull z)) H'
theorem scFu : FnScope ["word", "parts", "part"] ["word"] (defScope sFull) := ⟨rfl, rfl, rfl, by decide +kernel, rfl, by decide +kernel, by decide +kernel⟩
theorem le_sum : ∀ {l : List Nat} {x : Nat}, x ∈ l → x ≤ l.sum
  | a :: r, x, h => by
    rw [List.sum_cons]
    rcases List.mem_cons.mp h with e | h
    · omega
    · have := le_sum h; omega
theorem split_len (z y : Str) (hy : 1 ≤ y.length) : (Txt.split z y).length ≤ z.length + 1 ∧ ∀ x ∈ Txt.split z y, x.length ≤ z.length + 1 := by
  have h := PyProof.Rows.split_weight z y hy
  refine ⟨by omega, fun x hx => ?_⟩
  have := le_sum (List.mem_map_of_mem (f := fun s : Str => s.length) hx)
  have e : ((Txt.split z y).map fun s : Str => s.length) = (Txt.split z y).map (·.length) := rfl
  rw [e] at this
  omega
theorem ok_full {f fN : Addr} {fd fdN : FuncData} (F : Fun K "is_full_name" "is_full_name" sFull f fd) (T : TT K w mg aO aR dF es nF tF)
    (GN : FnOk P w K mg base CX0 1 fN fdN ["value"] (spIsName K)) (bN : Binds K fdN ["value"] []) (gN : mg "is_name" = some (.ref fN)) (kN : PySem.W.keepIn K (.ref fN) = true) : FnOk P w K mg base CX0 2 f fd ["word"] spFull := by
  refine F.ok scFu (fun vs H Q E h => ?_) (fun cdv A outer sh H vs Q E hr h => ?_)
  · obtain ⟨z, rfl, _⟩ := h
    rfl
  · obtain ⟨z, rfl, hz, q⟩ := h
    refine ⟨_, pss_cons (ps_set (i := 1) scFu.nd rfl (.inl rfl) (pe_bm PySem.F.plainAttrs_str PySem.F.slot_str_split PySem.F.type_str_split mt_splitQ (pv 0) (pa_cons pe_str pa_nil)))
      (pss_one (ps_ret (pe_and (pe_cmpR op_eq (pe_callB call_len_seq (by rfl) T.zl PySem.boot_len (pa_cons (pv 1) pa_nil)) pe_int (nomark _)) (pe_one (pe_callB (cr_all rfl) (by rfl) T.za b_all (pa_cons (pe_cwl (K := K) (pe_lc (own := [("part", 2)]) (g := gName 2) (tt := tYes) rfl scFu.nd (pi_list (pv 1)) (blkOk_by (N := ["word", "parts", "part"]) (sc := defScope sFull) (by decide +kernel)) (fun _ _ _ _ _ => pg_name (i := 2) scFu.nd rfl (Or.inl rfl)) (fun _ _ _ _ _ => pts_nil) (fun _ _ _ _ _ => pe_call GN hr rfl gN kN bN .nil pass0 (pa_cons (pv 2) pa_nil))) mono_var) pa_nil)))))), ?_⟩
    have hsl := split_len z "." (by decide +kernel)
    have eF : isFull z = (decide ((Txt.split z ".").length = 2) && (Txt.split z ".").all isName) := rfl
    generalize hL : Txt.split z "." = L at hsl eF
    have ty : tyV K "str" (.str z) H := rfl
    refine ⟨.str z, rfl, ty, z, ".", rfl, rfl, by decide +kernel, Nat.le_trans (by omega) (show 1000 ≤ sizeLine by decide), fun p H1 s1 n1 e1 => ?_⟩
    rw [hL] at e1
    have e2 : decide (V.int ((L.map V.str).length : Int) = V.int 2) = decide (L.length = 2) := by
      rw [List.length_map]
      by_cases h : L.length = 2
      · rw [h]; rfl
      · rw [decide_eq_false h, decide_eq_false fun e => h (by have := V.int.inj e; omega)]
    refine ⟨.ref p, rfl, p, _, rfl, .inl (SqL.of e1), rfl, _, rfl, ?_⟩
    rw [e2]
    by_cases h2 : L.length = 2
    · rw [decide_eq_true h2]
      refine ⟨.ref p, rfl, p, L.map V.str, (L.map isName).map V.bl, rfl, SqL.of e1, by rw [List.length_map]; omega, (by show 2 < 3; decide), by simp, fun i x v τ H2 Q' hx hv s2 hτ hq => ?_, fun D H3 s3 n3 e3 => ?_⟩
      · rw [List.getElem?_map] at hx hv
        obtain ⟨y, hy, rfl⟩ := Option.map_eq_some_iff.mp hx
        rw [List.getElem?_map, hy] at hv
        cases hv
        have := hsl.2 y (List.mem_of_getElem? hy)
        exact ⟨.str y, hτ, .str y, rfl, .inl ⟨y, rfl, Nat.le_trans (by omega) (show 1000 ≤ sizeLine by decide), hq⟩⟩
      · refine ⟨D, _, rfl, SqL.of e3, ?_⟩
        have := q H3 (s1.trans s3)
        rw [eF, decide_eq_true h2, Bool.true_and] at this
        rw [show (L.map isName).all id = L.all isName from by rw [List.all_map]; rfl]
        exact this
    · rw [decide_eq_false h2]
      have := q H1 s1
      rw [eF, decide_eq_false h2, Bool.false_and] at this
      exact this
/-! ### read_inside -/
theorem scRi : FnScope ["parts", "tree"] ["parts"] (defScope (sAsk 4)) := ⟨rfl, rfl, rfl, by decide +kernel, rfl, by decide +kernel, by decide +kernel⟩
theorem ok_inside0 {f fE : Addr} {fd fdE : FuncData} (F : Fun K "read_inside" "read_inside" (sAsk 4) f fd) (T : TQ K mg aWO aRD aLS aSG CPt)
    (GE : FnOk P w K mg base (L2.CX P w) 4 fE fdE ["self"] (spEnter CPt CBQ)) (bE : Binds K fdE ["self"] []) (mE : Meth K CPt "enter" fE) : FnOk P w K mg base (L2.CX P w) 5 f fd ["parts"] (spRd CPt CBQ Ins 0) := by
  refine F.okX scRi (fun vs H Q E h => ?_) (fun cdv A outer sh H vs Q E hr h => ?_)
  · obtain ⟨a, z, s, r, rfl, _⟩ := h
    rfl
  · obtain ⟨a, z, s, r, rfl, hn, hp, hz, R, q0, q1⟩ := h
    refine ⟨_, pss_cons (ps_expr (pe_meth0 (E := E) (pv 0) T.cP mE GE hr bE .nil (passes_call (takes_of rfl rfl rfl rfl) (fun _ _ _ _ h => h)))) (pss_cons ps_never (pss_cons ps_never (pss_one ps_never))), ?_⟩
    obtain ⟨dx, ha, hd, hs⟩ := hp
    refine ⟨.ref a, rfl, a, dx, _, rfl, ha, rfl, a, z, 8, s, rfl, ⟨dx, ha, hd, hs⟩, by omega, fun _ h => absurd rfl h, fun _ d H' s' e => ?_⟩
    cases R with
    | no h => exact q1 s rfl d H' (Off.of s') e
theorem ok_insideS {f fE fL fLo : Addr} {fd fdE fdL fdLo : FuncData} {n k : Nat} (F : Fun K "read_inside" "read_inside" (sAsk 4) f fd) (T : TQ K mg aWO aRD aLS aSG CPt) (hk : 4 ≤ k)
    (GE : FnOk P w K mg base (L2.CX P w) 4 fE fdE ["self"] (spEnter CPt CBQ)) (bE : Binds K fdE ["self"] []) (mE : Meth K CPt "enter" fE)
    (GL : FnOk P w K mg base (L2.CX P w) 4 fL fdL ["self"] (spLeave CPt CBQ)) (bL : Binds K fdL ["self"] []) (mL : Meth K CPt "leave" fL)
    (GR : FnOk P w K mg base (L2.CX P w) k fLo fdLo ["parts"] (spRd CPt CBQ Lo n)) (bR : Binds K fdLo ["parts"] []) (gR : mg "read_loose" = some (.ref fLo)) (kR : PySem.W.keepIn K (.ref fLo) = true) :
    FnOk P w K mg base (L2.CX P w) (k + 1) f fd ["parts"] (spRd CPt CBQ Ins (n + 1)) := by
  refine F.okX scRi (fun vs H Q E h => ?_) (fun cdv A outer sh H vs Q E hr h => ?_)
  · obtain ⟨a, z, s, r, rfl, _⟩ := h
    rfl
  · obtain ⟨a, z, s, r, rfl, hn, hp, hz, R, q0, q1⟩ := h
    have hr4 : Room 4 _ := hr.mono hk
    refine ⟨_, pss_cons (ps_expr (pe_meth0 (E := E) (pv 0) T.cP mE GE hr4 bE .nil (passes_call (takes_of rfl rfl rfl rfl) (fun _ _ _ _ h => h))))
      (pss_cons (ps_set (i := 1) scRi.nd rfl (.inl rfl) (pe_call (E := E) GR hr rfl gR kR bR .nil (passes_call (takes_of rfl rfl rfl rfl) (fun _ _ _ _ h => h)) (pa_cons (pv 0) pa_nil)))
      (pss_cons (ps_expr (pe_meth0 (E := E) (pv 0) T.cP mL GL hr4 bL .nil (passes_call (takes_of rfl rfl rfl rfl) (fun _ _ _ _ h => h)))) (pss_one (ps_ret (pv 1))))), ?_⟩
    have hp0 := hp
    obtain ⟨dx, ha, hd, hs⟩ := hp
    have e8 : 8 - (n + 1) + 1 = 8 - n := by omega
    refine ⟨.ref a, rfl, a, dx, _, rfl, ha, rfl, a, z, 8 - (n + 1), s, rfl, hp0, by omega, fun ht ho H1 o1 p1 => ?_, fun ht d H' s' e => ?_⟩
    · rw [e8] at p1
      obtain ⟨r', L, k1, k2, k3⟩ : ∃ r', Lo n (adv s) r' ∧ (∀ t s', r' = .ok t s' → tok s' = ")" → r = .ok t (adv s')) ∧ (∀ t s', r' = .ok t s' → tok s' ≠ ")" → r = .er s') ∧ (∀ e, r' = .er e → r = .er e) := by
        cases R with
        | no h => exact absurd (h.elim (fun h => h ht) (fun h => by omega)) id
        | ok h1 h2 h3 => exact ⟨_, h2, (fun t s' e _ => by cases e; rfl), (fun t s' e h => by cases e; exact absurd h3 h), (fun e h => nomatch h)⟩
        | erL h1 h2 => exact ⟨_, h2, (fun t s' e _ => nomatch e), (fun t s' e _ => nomatch e), (fun e h => by cases h; rfl)⟩
        | erR h1 h2 h3 => exact ⟨_, h2, (fun t s' e h => by cases e; exact absurd h h3), (fun t s' e h => by cases e; rfl), (fun e h => nomatch h)⟩
      refine ⟨.ref a, rfl, a, z, adv s, r', rfl, by omega, p1, hz, L, fun t s' er H2 v o2 p2 tr => ?_, fun e er d H2 o2 e2 => q1 e (k3 e er) d H2 (o1.trans o2) e2⟩
      have p2' := p2
      obtain ⟨dx2, e2, _⟩ := p2'
      refine ⟨.ref a, rfl, a, dx2, _, rfl, e2, rfl, a, z, 8 - (n + 1), s', rfl, by rw [e8]; exact p2, by omega, fun ht' H3 o3 p3 => ?_, fun ht' d H3 s3 e3 => ?_⟩
      · exact ⟨v, rfl, q0 t (adv s') (k1 t s' er ht') H3 v ((o1.trans o2).trans o3) p3 (tr.mono (p2.tk o3))⟩
      · exact q1 s' (k2 t s' er ht') d H3 ((o1.trans o2).trans (Off.of s3)) e3
    · have ht' : tok s ≠ "(" := ht.elim id fun h => by omega
      cases R with
      | no h => exact q1 s rfl d H' (Off.of s') e
      | ok h1 h2 h3 => exact absurd h1 ht'
      | erL h1 h2 => exact absurd h1 ht'
      | erR h1 h2 h3 => exact absurd h1 ht'
end
end AQ

set_option Elab.async false
set_option linter.all false
set_option maxRecDepth 100000
set_option maxHeartbeats 4000000
/-! Words, roads, signs. -/
namespace AQ
open PySem PySem.Spec PyProof.Rows L2 L2.FK FS TX
section
variable {P : Program} {w : World} {K : PySem.W.Frag} {mg : Str → Option Value} {base : Heap} {aO aR dF aWO aRD aLS aSG CPt CBQ fBQ : Addr} {es : Array DictEntry} {nF : Nat} {tF : Str → Addr}
theorem scSi : FnScope ["parts", "word"] ["parts"] (defScope (sAsk 3)) := ⟨rfl, rfl, rfl, by decide +kernel, rfl, by decide +kernel, by decide +kernel⟩
theorem ok_single {f fG fF fI : Addr} {fd fdG fdF fdI : FuncData} {n k : Nat} (F : Fun K "read_single" "read_single" (sAsk 3) f fd) (T : TQ K mg aWO aRD aLS aSG CPt) (hk : 4 ≤ k)
    (GG : FnOk P w K mg base CX0 3 fG fdG ["self"] (spGoOn CPt)) (bG : Binds K fdG ["self"] []) (mG : Meth K CPt "go_on" fG)
    (GF : FnOk P w K mg base CX0 2 fF fdF ["word"] spFull) (bF : Binds K fdF ["word"] []) (gF : mg "is_full_name" = some (.ref fF)) (kF : PySem.W.keepIn K (.ref fF) = true)
    (GI : FnOk P w K mg base (L2.CX P w) k fI fdI ["parts"] (spRd CPt CBQ Ins n)) (bI : Binds K fdI ["parts"] []) (gI : mg "read_inside" = some (.ref fI)) (kI : PySem.W.keepIn K (.ref fI) = true) :
    FnOk P w K mg base (L2.CX P w) (k + 1) f fd ["parts"] (spRd CPt CBQ Sg n) := by
  refine F.okX scSi (fun vs H Q E h => ?_) (fun cdv A outer sh H vs Q E hr h => ?_)
  · obtain ⟨a, z, s, r, rfl, _⟩ := h
    rfl
  · obtain ⟨a, z, s, r, rfl, hn, hp, hz, R, q0, q1⟩ := h
    have hr3 : Room 3 _ := hr.mono (by omega)
    have hr2 : Room 2 _ := hr.mono (by omega)
    refine ⟨_, pss_cons (ps_set (i := 1) scSi.nd rfl (.inl rfl) (pe_fld (pv 0) rfl))
      (pss_cons (ps_if (pt_cmpR op_in_seq (pv 1) (pe_glob rfl T.gR (v := .ref aRD) rfl) (by rfl))
          (pss_cons (ps_expr (pe_meth0 (pv 0) T.cP mG GG hr3 bG .nil pass0)) (pss_one (ps_ret (pe_tupS (pa_cons pe_str (pa_cons (pv 1) (pa_cons (pe_call (E := E) GI hr rfl gI kI bI .nil (passes_call (takes_of rfl rfl rfl rfl) (fun _ _ _ _ h => h)) (pa_cons (pv 0) pa_nil)) pa_nil))))))) pss_nil)
      (pss_cons (ps_if (PW.pt (pw_or (pt_cmpR op_in_seq (pv 1) (pe_glob rfl T.gW (v := .ref aWO) rfl) (by rfl)) (pw_or1 (pt_val (pe_call GF hr2 rfl gF kF bF .nil pass0 (pa_cons (pv 1) pa_nil))))))
          (pss_cons (ps_expr (pe_meth0 (pv 0) T.cP mG GG hr3 bG .nil pass0)) (pss_one (ps_ret (pe_tupS (pa_cons pe_str (pa_cons (pv 1) pa_nil)))))) pss_nil)
      (pss_one (ps_ret (pe_call (E := E) GI hr rfl gI kI bI .nil (passes_call (takes_of rfl rfl rfl rfl) (fun _ _ _ _ h => h)) (pa_cons (pv 0) pa_nil)))))), ?_⟩
    have hp0 := hp
    obtain ⟨dx, ha, hd, hs⟩ := hp
    have ln : (cs z).length = z.length := len_cps z
    have tl : (tok s).length ≤ 200 := by
      have := tok_len s
      omega
    refine ⟨.ref a, rfl, a, CPt, dx, _, .str (tok s), rfl, ha, T.cP, T.nW, rfl, ?_⟩
    refine ⟨.str (tok s), rfl, aRD, _, rfl, .inr (T.kR.sq H), rfl, by decide, ?_⟩
    rw [show (if false = true then !inV (V.str (tok s)) (ROADS.map V.str) else inV (V.str (tok s)) (ROADS.map V.str)) = ROADS.contains (tok s) from inV_txt _ _]
    refine ⟨_, rfl, ?_⟩
    cases hR : ROADS.contains (tok s) with
    | true =>
      obtain ⟨r', L, k1, k2⟩ : ∃ r', Ins n (adv s) r' ∧ (∀ t s', r' = .ok t s' → r = .ok (.road (tok s) t) s') ∧ (∀ e, r' = .er e → r = .er e) := by
        cases R with
        | road h1 h2 => exact ⟨_, h2, (fun t s' e => by cases e; rfl), (fun e h => nomatch h)⟩
        | roadE h1 h2 => exact ⟨_, h2, (fun t s' e => nomatch e), (fun e h => by cases h; rfl)⟩
        | word h1 h2 => rw [hR] at h1; cases h1
        | ins h1 h2 h3 => rw [hR] at h1; cases h1
      refine iteT ⟨.ref a, rfl, a, dx, _, rfl, ha, rfl, a, z, 8 - n, s, rfl, hp0, by omega, fun H1 o1 p1 => ?_⟩
      refine ⟨.str (tok s), rfl, .ref a, rfl, a, z, adv s, r', rfl, hn, p1, hz, L, fun t s' er H2 v o2 p2 tr => ?_, fun e er d H2 o2 e2 => q1 e (k2 e er) d H2 (o1.trans o2) e2⟩
      refine ⟨by show 3 ≤ 1000; decide, fun q H3 s3 n3 e3 => q0 (.road (tok s) t) s' (k1 t s' er) H3 _ ((o1.trans o2).trans (Off.of s3)) (p2.mono s3) ⟨q, v, rfl, e3, tr.mono (Tk.of s3)⟩⟩
    | false =>
      refine iteF ⟨.str (tok s), rfl, aWO, _, rfl, .inr (T.kW.sq H), rfl, by decide, ?_⟩
      rw [show (if false = true then !inV (V.str (tok s)) (WORDS.map V.str) else inV (V.str (tok s)) (WORDS.map V.str)) = WORDS.contains (tok s) from inV_txt _ _]
      refine ⟨_, rfl, ?_⟩
      have word : ∀ H1, Same H H1 → isW (tok s) = true → ∀ H2, Off a H1 H2 → PAt CPt H2 a z (8 - n) (adv s) → ∀ q H3, Same H2 H3 → H3 q = some (.tup [.str "word", .str (tok s)]) → Q (.ref q) H3 := fun H1 s1 hW H2 o2 p2 q H3 s3 e3 => by
        have er : r = .ok (.word (tok s)) (adv s) := by
          cases R with
          | road h1 h2 => rw [hR] at h1; cases h1
          | roadE h1 h2 => rw [hR] at h1; cases h1
          | word h1 h2 => rfl
          | ins h1 h2 h3 => rw [hW] at h2; cases h2
        exact q0 _ _ er H3 _ (((Off.of s1).trans o2).trans (Off.of s3)) (p2.mono s3) ⟨q, rfl, e3⟩
      cases hW1 : WORDS.contains (tok s) with
      | true =>
        have hW : isW (tok s) = true := by unfold isW; rw [hW1]; rfl
        refine iteT (iteT ⟨.ref a, rfl, a, dx, _, rfl, ha, rfl, a, z, 8 - n, s, rfl, hp0, by omega, fun H1 o1 p1 => ?_⟩)
        exact ⟨.str (tok s), rfl, by show 2 ≤ 1000; decide, fun q H3 s3 n3 e3 => word H (Same.refl H) hW H1 o1 p1 q H3 s3 e3⟩
      | false =>
        refine iteF ⟨.str (tok s), rfl, tok s, rfl, by omega, fun H1 s1 => ⟨_, rfl, ?_⟩⟩
        cases hF : isFull (tok s) with
        | true =>
          have hW : isW (tok s) = true := by unfold isW; rw [hF, Bool.or_true]
          refine iteT ⟨.ref a, rfl, a, dx, _, rfl, s1 _ _ ha, rfl, a, z, 8 - n, s, rfl, hp0.mono s1, by omega, fun H2 o2 p2 => ?_⟩
          exact ⟨.str (tok s), rfl, by show 2 ≤ 1000; decide, fun q H3 s3 n3 e3 => word H1 s1 hW H2 o2 p2 q H3 s3 e3⟩
        | false =>
          have hW : isW (tok s) = false := by unfold isW; rw [hW1, hF]; rfl
          have L : Ins n s r := by
            cases R with
            | road h1 h2 => rw [hR] at h1; cases h1
            | roadE h1 h2 => rw [hR] at h1; cases h1
            | word h1 h2 => rw [hW] at h2; cases h2
            | ins h1 h2 h3 => exact h3
          exact iteF ⟨.ref a, rfl, a, z, s, r, rfl, hn, hp0.mono s1, hz, L, fun t s' er H2 v o2 p2 tr => q0 t s' er H2 v ((Off.of s1).trans o2) p2 tr, fun e er d H2 o2 e2 => q1 e er d H2 ((Off.of s1).trans o2) e2⟩
/-! ### read_tight -/
theorem scTi : FnScope ["parts", "tree"] ["parts"] (defScope (sAsk 5)) := ⟨rfl, rfl, rfl, by decide +kernel, rfl, by decide +kernel, by decide +kernel⟩
theorem ok_tight {f fG fS : Addr} {fd fdG fdS : FuncData} {n k : Nat} (F : Fun K "read_tight" "read_tight" (sAsk 5) f fd) (T : TQ K mg aWO aRD aLS aSG CPt) (hk : 4 ≤ k)
    (GG : FnOk P w K mg base CX0 3 fG fdG ["self"] (spGoOn CPt)) (bG : Binds K fdG ["self"] []) (mG : Meth K CPt "go_on" fG)
    (GS : FnOk P w K mg base (L2.CX P w) k fS fdS ["parts"] (spRd CPt CBQ Sg n)) (bS : Binds K fdS ["parts"] []) (gS : mg "read_single" = some (.ref fS)) (kS : PySem.W.keepIn K (.ref fS) = true) :
    FnOk P w K mg base (L2.CX P w) (k + 1) f fd ["parts"] (spRd CPt CBQ Ti n) := by
  refine F.okX scTi (fun vs H Q E h => ?_) (fun cdv A outer sh H vs Q E hr h => ?_)
  · obtain ⟨a, z, s, r, rfl, _⟩ := h
    rfl
  · obtain ⟨a, z, s, r, rfl, hn, hp, hz, R, q0, q1⟩ := h
    have hr3 : Room 3 _ := hr.mono (by omega)
    refine ⟨_, pss_cons (ps_set (i := 1) scTi.nd rfl (.inl rfl) (pe_call (E := E) GS hr rfl gS kS bS .nil (passes_call (takes_of rfl rfl rfl rfl) (fun _ _ _ _ h => h)) (pa_cons (pv 0) pa_nil)))
      (pss_cons (ps_while (passes_of rfl) (pt_cmpR op_eq (pe_fld (pv 0) rfl) pe_str (nomark _))
        (pss_cons (ps_expr (pe_meth0 (pv 0) T.cP mG GG hr3 bG .nil pass0))
        (pss_one (ps_set (i := 1) scTi.nd rfl (.inl rfl) (pe_tupS (pa_cons pe_str (pa_cons (pv 1) (pa_cons (pe_call (E := E) GS hr rfl gS kS bS .nil (passes_call (takes_of rfl rfl rfl rfl) (fun _ _ _ _ h => h)) (pa_cons (pv 0) pa_nil)) pa_nil))))))))
      (pss_one (ps_ret (pv 1)))), ?_⟩
    obtain ⟨r', L, k1, k2⟩ : ∃ r', Sg n s r' ∧ (∀ t s', r' = .ok t s' → ∃ k, TL n k t s' r) ∧ (∀ e, r' = .er e → r = .er e) := by
      cases R with
      | go h1 h2 => exact ⟨_, h1, (fun t s' e => by cases e; exact ⟨_, h2⟩), (fun e h => nomatch h)⟩
      | er h1 => exact ⟨_, h1, (fun t s' e => nomatch e), (fun e h => by cases h; rfl)⟩
    refine ⟨.ref a, rfl, a, z, s, r', rfl, hn, hp, hz, L, fun t s' er H1 v o1 p1 tr => ?_, fun e er d H2 o2 e2 => q1 e (k2 e er) d H2 o2 e2⟩
    obtain ⟨m0, tl⟩ := k1 t s' er
    refine ⟨fun m σ H' => ∃ v t s1, σ = [some (.ref a), some v] ∧ Off a H H' ∧ PAt CPt H' a z (8 - n) s1 ∧ TrAt "road" H' v t ∧ TL n m t s1 r, ⟨m0, v, t, s', rfl, o1, p1, tr, tl⟩, ?_⟩
    rintro m σ H2 ⟨v, t, s1, rfl, o2, p2, tr, tl⟩
    have p2' := p2
    obtain ⟨dx, ha, hd, hs⟩ := p2'
    refine ⟨.ref a, rfl, a, CPt, dx, _, .str (tok s1), rfl, ha, T.cP, T.nW, rfl, rfl, _, rfl, ?_⟩
    rw [str_ne]
    cases tl with
    | stop h =>
      rw [decide_eq_false h]
      exact iteF ⟨v, rfl, q0 t s1 rfl H2 v o2 p2 tr⟩
    | @go _ k _ _ b s2 _ h1 h2 h3 =>
      rw [decide_eq_true h1]
      refine iteT ⟨fun σ' H' => ∃ m', m' < k + 1 ∧ _, fun _ _ h => h, .ref a, rfl, a, dx, _, rfl, ha, rfl, a, z, 8 - n, s1, rfl, p2, by omega, fun H3 o3 p3 => ?_⟩
      refine ⟨v, rfl, .ref a, rfl, a, z, adv s1, _, rfl, hn, p3, hz, h2, fun t' s' er H4 v' o4 p4 tr4 => ?_, fun e er => nomatch er⟩
      cases er
      have tr' : TrAt "road" H4 v t := (tr.mono (p2.tk o3)).mono (p3.tk o4)
      exact ⟨by show 3 ≤ 1000; decide, fun q H5 s5 n5 e5 => ⟨k, Nat.lt_succ_self k, _, .bin "&" t b, s2, rfl, ((o2.trans o3).trans o4).trans (Off.of s5), p4.mono s5, ⟨q, v, v', rfl, e5, tr'.mono (Tk.of s5), tr4.mono (Tk.of s5)⟩, h3⟩⟩
    | er h1 h2 =>
      rw [decide_eq_true h1]
      refine iteT ⟨fun σ' H' => False, fun _ _ h => h.elim, .ref a, rfl, a, dx, _, rfl, ha, rfl, a, z, 8 - n, s1, rfl, p2, by omega, fun H3 o3 p3 => ?_⟩
      exact ⟨v, rfl, .ref a, rfl, a, z, adv s1, _, rfl, hn, p3, hz, h2, (fun t' s' er => nomatch er), fun e er d H4 o4 e4 => q1 e er d H4 ((o2.trans o3).trans o4) e4⟩
/-! ### read_loose -/
theorem scLo : FnScope ["parts", "tree", "sign"] ["parts"] (defScope (sAsk 6)) := ⟨rfl, rfl, rfl, by decide +kernel, rfl, by decide +kernel, by decide +kernel⟩
theorem ok_loose {f fG fS : Addr} {fd fdG fdS : FuncData} {n k : Nat} (F : Fun K "read_loose" "read_loose" (sAsk 6) f fd) (T : TQ K mg aWO aRD aLS aSG CPt) (hk : 4 ≤ k)
    (GG : FnOk P w K mg base CX0 3 fG fdG ["self"] (spGoOn CPt)) (bG : Binds K fdG ["self"] []) (mG : Meth K CPt "go_on" fG)
    (GS : FnOk P w K mg base (L2.CX P w) k fS fdS ["parts"] (spRd CPt CBQ Ti n)) (bS : Binds K fdS ["parts"] []) (gS : mg "read_tight" = some (.ref fS)) (kS : PySem.W.keepIn K (.ref fS) = true) :
    FnOk P w K mg base (L2.CX P w) (k + 1) f fd ["parts"] (spRd CPt CBQ Lo n) := by
  refine F.okX scLo (fun vs H Q E h => ?_) (fun cdv A outer sh H vs Q E hr h => ?_)
  · obtain ⟨a, z, s, r, rfl, _⟩ := h
    rfl
  · obtain ⟨a, z, s, r, rfl, hn, hp, hz, R, q0, q1⟩ := h
    have hr3 : Room 3 _ := hr.mono (by omega)
    refine ⟨_, pss_cons (ps_set (i := 1) scLo.nd rfl (.inl rfl) (pe_call (E := E) GS hr rfl gS kS bS .nil (passes_call (takes_of rfl rfl rfl rfl) (fun _ _ _ _ h => h)) (pa_cons (pv 0) pa_nil)))
      (pss_cons (ps_while (passes_of rfl) (pt_cmpR op_in_seq (pe_fld (pv 0) rfl) (pe_glob rfl T.gS (v := .ref aLS) rfl) (by rfl))
        (pss_cons (ps_set (i := 2) scLo.nd rfl (.inl rfl) (pe_fld (pv 0) rfl))
        (pss_cons (ps_expr (pe_meth0 (pv 0) T.cP mG GG hr3 bG .nil pass0))
        (pss_one (ps_set (i := 1) scLo.nd rfl (.inl rfl) (pe_tupS (pa_cons (pv 2) (pa_cons (pv 1) (pa_cons (pe_call (E := E) GS hr rfl gS kS bS .nil (passes_call (takes_of rfl rfl rfl rfl) (fun _ _ _ _ h => h)) (pa_cons (pv 0) pa_nil)) pa_nil)))))))))
      (pss_one (ps_ret (pv 1)))), ?_⟩
    obtain ⟨r', L, k1, k2⟩ : ∃ r', Ti n s r' ∧ (∀ t s', r' = .ok t s' → ∃ k, LL n k t s' r) ∧ (∀ e, r' = .er e → r = .er e) := by
      cases R with
      | go h1 h2 => exact ⟨_, h1, (fun t s' e => by cases e; exact ⟨_, h2⟩), (fun e h => nomatch h)⟩
      | er h1 => exact ⟨_, h1, (fun t s' e => nomatch e), (fun e h => by cases h; rfl)⟩
    refine ⟨.ref a, rfl, a, z, s, r', rfl, hn, hp, hz, L, fun t s' er H1 v o1 p1 tr => ?_, fun e er d H2 o2 e2 => q1 e (k2 e er) d H2 o2 e2⟩
    obtain ⟨m0, tl⟩ := k1 t s' er
    refine ⟨fun m σ H' => ∃ v t s1 v3, σ = [some (.ref a), some v, v3] ∧ Off a H H' ∧ PAt CPt H' a z (8 - n) s1 ∧ TrAt "road" H' v t ∧ LL n m t s1 r, ⟨m0, v, t, s', _, rfl, o1, p1, tr, tl⟩, ?_⟩
    rintro m σ H2 ⟨v, t, s1, v3, rfl, o2, p2, tr, tl⟩
    have p2' := p2
    obtain ⟨dx, ha, hd, hs⟩ := p2'
    refine ⟨.ref a, rfl, a, CPt, dx, _, .str (tok s1), rfl, ha, T.cP, T.nW, rfl, aLS, _, rfl, .inr (T.kS.sq H2), rfl, by decide, ?_⟩
    rw [show (if false = true then !inV (V.str (tok s1)) (LOOSE.map V.str) else inV (V.str (tok s1)) (LOOSE.map V.str)) = LOOSE.contains (tok s1) from inV_txt _ _]
    refine ⟨_, rfl, ?_⟩
    cases tl with
    | stop h =>
      rw [h]
      exact iteF ⟨v, rfl, q0 t s1 rfl H2 v o2 p2 tr⟩
    | @go _ k _ _ b s2 _ h1 h2 h3 =>
      rw [h1]
      refine iteT ⟨fun σ' H' => ∃ m', m' < k + 1 ∧ _, fun _ _ h => h, .ref a, rfl, a, CPt, dx, _, .str (tok s1), rfl, ha, T.cP, T.nW, rfl, .ref a, rfl, a, dx, _, rfl, ha, rfl, a, z, 8 - n, s1, rfl, p2, by omega, fun H3 o3 p3 => ?_⟩
      refine ⟨.str (tok s1), rfl, v, rfl, .ref a, rfl, a, z, adv s1, _, rfl, hn, p3, hz, h2, fun t' s' er H4 v' o4 p4 tr4 => ?_, fun e er => nomatch er⟩
      cases er
      have tr' : TrAt "road" H4 v t := (tr.mono (p2.tk o3)).mono (p3.tk o4)
      exact ⟨by show 3 ≤ 1000; decide, fun q H5 s5 n5 e5 => ⟨k, Nat.lt_succ_self k, _, .bin (tok s1) t b, s2, _, rfl, ((o2.trans o3).trans o4).trans (Off.of s5), p4.mono s5, ⟨q, v, v', rfl, e5, tr'.mono (Tk.of s5), tr4.mono (Tk.of s5)⟩, h3⟩⟩
    | er h1 h2 =>
      rw [h1]
      refine iteT ⟨fun σ' H' => False, fun _ _ h => h.elim, .ref a, rfl, a, CPt, dx, _, .str (tok s1), rfl, ha, T.cP, T.nW, rfl, .ref a, rfl, a, dx, _, rfl, ha, rfl, a, z, 8 - n, s1, rfl, p2, by omega, fun H3 o3 p3 => ?_⟩
      exact ⟨.str (tok s1), rfl, v, rfl, .ref a, rfl, a, z, adv s1, _, rfl, hn, p3, hz, h2, (fun t' s' er => nomatch er), fun e er d H4 o4 e4 => q1 e er d H4 ((o2.trans o3).trans o4) e4⟩
end
end AQ

set_option Elab.async false
set_option linter.all false
set_option maxRecDepth 100000
set_option maxHeartbeats 4000000
/-! check_text, read_question. -/
namespace AQ
open PySem PySem.Spec PyProof.Rows L2 L2.FK FS TX
section
variable {X : Cx} {e : Expr}
/-- [t for sign in text], a test of each sign -/
def tCS (i j : Nat) (f : Nat → Bool) : TE := fun σ H Q => ∃ z, σ[i]? = some (some (.str z)) ∧ z.length ≤ sizeLine ∧ j < σ.length ∧ ∀ D H', Same H H' → H D = none → H' D = some (.lst ((z.cps.toList.map f).map V.bl)) → Q (.ref D) H'
theorem pe_cs {i j : Nat} {te : TE} (f : Nat → Bool) (h : PE X e (tLc (iStr (tVar i)) (gName j) tYes te [j])) (hte : ∀ (c : Nat) (σ : L2.St) (H : Hp) (Q : VK), σ[j]? = some (some (.str ⟨#[c]⟩)) → Q (.bl (f c)) H → te σ H Q) : PE X e (tCS i j f) := by
  refine pe_imp h fun σ H Q ⟨z, hi, hz, hj, q⟩ => ⟨.str z, hi, z, rfl, fun D hD => ?_⟩
  refine lc_it walk_str (fun i H' => Same H H' ∧ H' D = some (.lst ((z.cps.toList.take i).map fun c => V.bl (f c)))) ⟨same_new hD, upd_same⟩ (fun _ _ _ _ => True.intro) (fun i x H1 H2 hi ⟨s1, e1⟩ ⟨eH, c', hc', ex⟩ => ?_) (fun H1 ⟨s1, e1⟩ => ?_)
  · subst eH
    subst ex
    have hi' : z.cps.toList[i]? = some c' := by simpa using hc'
    have adv : (z.cps.toList.take (i + 1)).map (fun c => V.bl (f c)) = (z.cps.toList.take i).map (fun c => V.bl (f c)) ++ [V.bl (f c')] := by
      rw [List.take_add_one, hi', List.map_append]
      rfl
    refine ⟨by simp [wipe], hte c' _ _ _ (by simp [wipe, hj]) ⟨_, e1, ?_, fun a o e => ?_, ?_⟩⟩
    · rw [List.length_map, List.length_take]
      have h9 : z.cps.size = z.length := rfl
      omega
    · rw [upd_ne (ne_of_none e hD)]
      exact s1 _ _ e
    · rw [upd_same, adv]
  · refine q D H1 s1 hD ?_
    rw [e1, List.take_of_length_le (by simp), List.map_map]
    rfl
end
def okC (c : Nat) : Bool := !decide (c < 32) && !decide (126 < c)
def okT (z : Str) : Bool := (cs z).all okC
theorem sgl (c d : Nat) : decide ([c] < [d]) = decide (c < d) := by
  by_cases h : c < d
  · rw [decide_eq_true h, decide_eq_true (p := [c] < [d]) (List.Lex.rel h)]
  · rw [decide_eq_false h]
    refine decide_eq_false fun q => ?_
    rcases q with _ | q | q
    · exact h ‹_›
    · exact nomatch ‹([] : List Nat).Lex _ []›
section
variable {P : Program} {w : World} {K : PySem.W.Frag} {mg : Str → Option Value} {base : Heap} {aO aR dF aWO aRD aLS aSG CPt CBQ fBQ : Addr} {es : Array DictEntry} {nF : Nat} {tF : Str → Addr}
/-! ### check_text -/
def spCkT (K : PySem.W.Frag) (CBQ : Addr) : Sp := fun vs H Q E => ∃ v, vs = [v] ∧ ((∃ z, v = .str z ∧ z.length ≤ 100000 ∧ (okT z = true → z.length ≤ 200 → ∀ H', Same H H' → Q .non H') ∧
    (okT z = true → 200 < z.length → ∀ d H', Same H H' → H' d = some (.xd [("place", .int 200)]) → E (.ref CBQ) (some d) H') ∧ (okT z = false → ∀ d H', Same H H' → H' d = some (.xd [("place", .non)]) → E (.ref CBQ) (some d) H')) ∨
  (NoStr K H v ∧ ∀ d H', Same H H' → H' d = some (.xd [("place", .non)]) → E (.ref CBQ) (some d) H'))
theorem scCT : FnScope ["text", "sign"] ["text"] (defScope (sAsk 0)) := ⟨rfl, rfl, rfl, by decide +kernel, rfl, by decide +kernel, by decide +kernel⟩
theorem til1 : ("~" : Str) = ⟨#[126]⟩ := by decide +kernel
theorem ok_ckT {f : Addr} {fd fdB : FuncData} (F : Fun K "check_text" "check_text" (sAsk 0) f fd) (T : TQ K mg aWO aRD aLS aSG CPt) (TT' : TT K w mg aO aR dF es nF tF) (U : EC K mg "BadQuestion" CBQ fBQ)
    (GB : FnOk P w K mg base CX0 1 fBQ fdB ["self", "place"] (spBad CBQ "place")) (bB : Binds K fdB ["self", "place"] []) : FnOk P w K mg base (L2.CX P w) 3 f fd ["text"] (spCkT K CBQ) := by
  obtain ⟨tL, gL⟩ := T.gL
  refine F.okX scCT (fun vs H Q E h => ?_) (fun cdv A outer sh H vs Q E hr h => ?_)
  · obtain ⟨v, rfl, _⟩ := h
    rfl
  · obtain ⟨v, rfl, q⟩ := h
    refine ⟨_, pss_cons (ps_if (PW.pt (pw_or (pt_not (pt_val (pe_callB call_isi (by rfl) TT'.zi b_isi (pa_cons (pv 0) (pa_cons (pe_bltn rfl TT'.zs b_str (v := .ty "str") rfl) pa_nil)))))
          (pw_or1 (pt_not (pt_val (pe_callB (cr_all rfl) (by rfl) TT'.za b_all (pa_cons (pe_cs (i := 0) (j := 1) okC (pe_lc (own := [("sign", 1)]) (g := gName 1) (tt := tYes) rfl scCT.nd (pi_str (pv 0)) (blkOk_by (N := ["text", "sign"]) (sc := defScope (sAsk 0)) (by decide +kernel)) (fun _ _ _ _ _ => pg_name (i := 1) scCT.nd rfl (Or.inl rfl)) (fun _ _ _ _ _ => pts_nil)
            (fun _ _ _ _ _ => pe_chain op_le_str op_le_str pe_str (pv 1) pe_str)) (fun c σ H Q hc hq => ?ch)) pa_nil)))))))
          (pss_one (ps_raise rfl (takes_of rfl rfl rfl rfl) (pmk_oex U.oex U.iC U.tI GB hr bB .nil pass0 rfl U.gC (pa_cons pe_non pa_nil)))) pss_nil)
      (pss_one (ps_if (pt_cmpR op_gt (pe_callB call_len_str (by rfl) TT'.zl PySem.boot_len (pa_cons (pv 0) pa_nil)) (pe_glob rfl gL (v := .int 200) ⟨_, rfl⟩) (nomark _))
          (pss_one (ps_raise rfl (takes_of rfl rfl rfl rfl) (pmk_oex U.oex U.iC U.tI GB hr bB .nil pass0 rfl U.gC (pa_cons (pe_glob rfl gL (v := .int 200) ⟨_, rfl⟩) pa_nil)))) pss_nil)), ?_⟩
    case ch =>
      refine ⟨_, hc, " ", ⟨#[c]⟩, rfl, rfl, _, rfl, ?_⟩
      rw [show (!decide ((⟨#[c]⟩ : Str).cps.toList < (" " : Str).cps.toList)) = !decide (c < 32) from by rw [sp1]; exact congrArg _ (sgl c 32)]
      unfold okC at hq
      cases h1 : decide (c < 32) with
      | true => rw [h1] at hq; exact hq
      | false =>
        rw [h1] at hq
        refine ⟨⟨#[c]⟩, "~", rfl, rfl, ?_⟩
        rw [show (!decide (("~" : Str).cps.toList < (⟨#[c]⟩ : Str).cps.toList)) = !decide (126 < c) from by rw [til1]; exact congrArg _ (sgl 126 c)]
        exact hq
    rcases q with ⟨z, rfl, hz, q0, q1, q2⟩ | ⟨⟨t, ty, kt⟩, q⟩
    · have hzs : z.length ≤ sizeLine := Nat.le_trans hz (by decide)
      have ks : PySem.W.kitOne K (.type "str") (.type "str") = some true := kit_ty (by decide +kernel)
      refine ⟨.str z, rfl, .str z, .ty "str", .type "str", .type "str", true, rfl, .ty "str", .base (.str z), ks, true, rfl, iteF ?_⟩
      refine ⟨z, rfl, hzs, (by show 1 < 2; decide), fun D H1 s1 n1 e1 => ⟨D, _, rfl, SqL.of e1, _, rfl, ?_⟩⟩
      rw [show (z.cps.toList.map okC).all id = okT z from by rw [List.all_map]; rfl]
      cases h : okT z with
      | false => exact iteT (bad_mk fun d H' nd s' e => q2 h d H' (s1.trans s') e)
      | true =>
        refine iteF ⟨.str z, rfl, z, rfl, hzs, _, _, rfl, rfl, _, rfl, ?_⟩
        by_cases hl : 200 < z.length
        · rw [decide_eq_true (by show (z.length : Int) > 200; omega)]
          exact iteT (bad_mk fun d H' nd s' e => q1 h hl d H' (s1.trans s') e)
        · rw [decide_eq_false (by show ¬ (z.length : Int) > 200; omega)]
          exact iteF (q0 h (by omega) H1 s1)
    · refine ⟨v, rfl, v, .ty "str", t, .type "str", false, rfl, .ty "str", ty, kt, false, rfl, iteT (iteT (bad_mk fun d H' nd s' e => q d H' s' e))⟩
/-! ### read_question -/
def spRQ (K : PySem.W.Frag) (CBQ : Addr) : Sp := fun vs H Q E => ∃ v, vs = [v] ∧ ((∃ z, v = .str z ∧ z.length ≤ 100000 ∧
    (okT z = true → z.length ≤ 200 → ∃ r, Lo 8 (skip (cs z)) r ∧ (∀ t s', r = .ok t s' → tok s' = "" → ∀ H' v, Same H H' → TrAt "road" H' v t → Q v H') ∧
      (∀ t s', r = .ok t s' → tok s' ≠ "" → ∀ d H', Same H H' → H' d = some (.xd [("place", .int (plc z s'))]) → E (.ref CBQ) (some d) H') ∧ (∀ e, r = .er e → ∀ d H', Same H H' → H' d = some (.xd [("place", .int (plc z e))]) → E (.ref CBQ) (some d) H')) ∧
    (okT z = true → 200 < z.length → ∀ d H', Same H H' → H' d = some (.xd [("place", .int 200)]) → E (.ref CBQ) (some d) H') ∧ (okT z = false → ∀ d H', Same H H' → H' d = some (.xd [("place", .non)]) → E (.ref CBQ) (some d) H')) ∨
  (NoStr K H v ∧ ∀ d H', Same H H' → H' d = some (.xd [("place", .non)]) → E (.ref CBQ) (some d) H'))
theorem scRQ : FnScope ["text", "parts", "tree"] ["text"] (defScope (sAsk 7)) := ⟨rfl, rfl, rfl, by decide +kernel, rfl, by decide +kernel, by decide +kernel⟩
theorem ok_readQ {f fC fP fL : Addr} {fd fdC fdP fdL fdB : FuncData} {k : Nat} (F : Fun K "read_question" "read_question" (sAsk 7) f fd) (T : TQ K mg aWO aRD aLS aSG CPt) (U : EC K mg "BadQuestion" CBQ fBQ) (hk : 4 ≤ k)
    (GB : FnOk P w K mg base CX0 1 fBQ fdB ["self", "place"] (spBad CBQ "place")) (bB : Binds K fdB ["self", "place"] [])
    (GC : FnOk P w K mg base (L2.CX P w) 3 fC fdC ["text"] (spCkT K CBQ)) (bC : Binds K fdC ["text"] []) (gC : mg "check_text" = some (.ref fC)) (kC : PySem.W.keepIn K (.ref fC) = true)
    (GP : FnOk P w K mg base CX0 3 fP fdP ["self", "text"] (spPtI CPt)) (bP : Binds K fdP ["self", "text"] []) (mP : Mk K CPt fP) (gP : mg "Parts" = some (.ref CPt))
    (GL : FnOk P w K mg base (L2.CX P w) k fL fdL ["parts"] (spRd CPt CBQ Lo 8)) (bL : Binds K fdL ["parts"] []) (gL : mg "read_loose" = some (.ref fL)) (kL : PySem.W.keepIn K (.ref fL) = true) :
    FnOk P w K mg base (L2.CX P w) (k + 1) f fd ["text"] (spRQ K CBQ) := by
  refine F.okX scRQ (fun vs H Q E h => ?_) (fun cdv A outer sh H vs Q E hr h => ?_)
  · obtain ⟨v, rfl, _⟩ := h
    rfl
  · obtain ⟨v, rfl, q⟩ := h
    have hr4 : Room 4 _ := hr.mono hk
    have hr3 : Room 3 _ := hr.mono (by omega)
    have hr2 : Room 2 _ := hr.mono (by omega)
    refine ⟨_, pss_cons (ps_expr (pe_call (E := E) GC hr3 rfl gC kC bC .nil (passes_call (takes_of rfl rfl rfl rfl) (fun _ _ _ _ h => h)) (pa_cons (pv 0) pa_nil)))
      (pss_cons (ps_set (i := 1) scRQ.nd rfl (.inl rfl) (pe_make mP GP hr4 rfl gP bP .nil pass0 (pa_cons (pv 0) pa_nil)))
      (pss_cons (ps_set (i := 2) scRQ.nd rfl (.inl rfl) (pe_call (E := E) GL hr rfl gL kL bL .nil (passes_call (takes_of rfl rfl rfl rfl) (fun _ _ _ _ h => h)) (pa_cons (pv 1) pa_nil)))
      (pss_cons (ps_if (pt_cmpR op_ne (pe_fld (pv 1) rfl) pe_str (nomark _)) (pss_one (ps_raise rfl (takes_of rfl rfl rfl rfl) (pmk_oex U.oex U.iC U.tI GB hr2 bB .nil pass0 rfl U.gC (pa_cons (pe_fld (pv 1) rfl) pa_nil)))) pss_nil)
      (pss_one (ps_ret (pv 2)))))), ?_⟩
    rcases q with ⟨z, rfl, hz, q0, q1, q2⟩ | ⟨ns, q⟩
    · refine ⟨.str z, rfl, .str z, rfl, .inl ⟨z, rfl, hz, fun h hl H1 s1 => ?_, q1, q2⟩⟩
      obtain ⟨r, L, k0, k1, k2⟩ := q0 h hl
      refine ⟨.str z, rfl, fun x dx nx ndx ne => ⟨x, dx, z, rfl, upd_same, by omega, fun H2 o2 p2 => ⟨rfl, ?_⟩⟩⟩
      have s2 : Same H1 H2 := Off.same (H1 := upd (upd H1 dx (.own x)) x (.ins CPt dx [])) ((same_new ndx).trans (same_new (by rw [upd_ne ne.symm]; exact nx))) nx o2
      have t2 := s1.trans s2
      have nx' : H x = none := same_none s1 nx
      refine ⟨.ref x, rfl, x, z, skip (cs z), r, rfl, Nat.le_refl 8, p2, hl, L, fun t s' er H3 v o3 p3 tr => ?_, fun e er d H3 o3 e3 => k2 e er d H3 (Off.same t2 nx' o3) e3⟩
      have t3 : Same H H3 := Off.same t2 nx' o3
      have p3' := p3
      obtain ⟨dx3, e3, _⟩ := p3'
      refine ⟨.ref x, rfl, x, CPt, dx3, _, .str (tok s'), rfl, e3, T.cP, T.nW, rfl, rfl, _, rfl, ?_⟩
      rw [show (!decide (V.str (tok s') = V.str "")) = !decide (tok s' = "") from by rw [str_ne]]
      by_cases ht : tok s' = ""
      · rw [decide_eq_true ht]
        exact iteF ⟨v, rfl, k0 t s' er ht H3 v t3 tr⟩
      · rw [decide_eq_false ht]
        exact iteT ⟨.ref x, rfl, x, CPt, dx3, _, .int (plc z s'), rfl, e3, T.cP, T.nP, rfl, bad_mk fun d H' nd s4 e => k1 t s' er ht d H' (t3.trans s4) e⟩
    · exact ⟨v, rfl, v, rfl, .inr ⟨ns, q⟩⟩
end
end AQ

set_option Elab.async false
set_option linter.all false
set_option maxRecDepth 100000
set_option maxHeartbeats 4000000
/-! x in o, x not in o, len(o) by an own __contains__, __len__. -/
namespace FS
open PySem PySem.Spec PyProof.Rows L2
section
variable {X : Cx} {C f : Addr} {fd : FuncData} {ps : List Str} {sp : Sp} {k : Nat}
/-- an own special method is called -/
theorem run_own {A : Around} {pins : List (Addr × Obj)} {σ : L2.St} {H : Hp} {s : Shared} {Q : VK} {vs : List V} {us : List Value} (F : FnOk X.prog X.w X.K X.mg X.base CX0 k f fd ps sp) (b : Binds X.K fd ps []) (hr : Room k A) (hf : A.frames = X.A.frames) (hx : Passes CX0 X (fun _ _ _ => False))
    (I : Inv X pins σ H s) (r : Vals vs us) (h : sp vs H Q (fun _ _ _ => False)) : wpAny (model X.prog X.w) A (call (.ref f) us) (EP X pins σ Q) X.xe s := by
  have hl := F.len _ _ _ _ h
  have e0 : Env0 X.prog X.w X.K X.mg X.base A X.stack s H := by
    have e := I.env0
    exact ⟨by rw [hf]; exact e.frames, e.mod, e.bs, e.bsz, e.funs, e.frf, e.hok, e.bare⟩
  refine wpAny_call (codeAny_mono (F.run A X.stack s H ⟨us, []⟩ us vs Q _ hr e0 (by
    have := b s us I.kIn (by rw [List.append_nil, ← r.length]; exact hl)
    rw [List.append_nil] at this
    exact this) r h) fun r s' hq => ?_)
  cases r with
  | error e => exact hx pins σ H s e s' I hq
  | ok fl =>
    cases fl with
    | ret u => exact I.after hq
    | next => exact False.elim hq
    | brk => exact False.elim hq
    | cont => exact False.elim hq
def rInOwn (C : Addr) (sp : Sp) (neg : Bool) : R2 := fun x y H Q => ∃ m dx fs, y = .ref m ∧ H m = some (.ins C dx fs) ∧ sp [.ref m, x] H (fun v H2 => ∃ b, v = .bl b ∧ Q (.bl (if neg then !b else b)) H2) (fun _ _ _ => False)
theorem op_in_own (hs : PySem.W.findIn X.K (.ref C) "__contains__" = some (some (.ref f))) (hif : PySem.W.isFn X.K (.ref f) = true) (F : FnOk X.prog X.w X.K X.mg X.base CX0 k f fd ps sp) (b : Binds X.K fd ps []) (hr : Room k X.A) (hx : Passes CX0 X (fun _ _ _ => False)) :
    OpR X (compareOp .In) (rInOwn C sp false) := by
  intro pins s σ H x y v u Q I rx ry ⟨m, dx, fs, ey, hm, hsp⟩
  subst ey
  cases ry
  obtain ⟨mA, J, _⟩ := ins_get I.hok hm
  obtain ⟨od, J, _⟩ := J.look
  obtain ⟨m0, hF⟩ := I.fr
  refine PySem.W.in_K hF I.ok.mod.kin J hs hif (wpAny_mono (run_own F b hr rfl hx I (.cons (show RelV (V.ref m) (Value.ref m) from rfl) (.cons rx .nil)) hsp) (fun r s' hq => ?_) fun _ _ z => z)
  obtain ⟨z, H', I', rz, c, ez, q⟩ := hq
  subst ez
  cases rz
  exact wpAny_truthy_bool ⟨.bl c, H', I', rfl, q⟩
theorem op_notIn_own (hs : PySem.W.findIn X.K (.ref C) "__contains__" = some (some (.ref f))) (hif : PySem.W.isFn X.K (.ref f) = true) (F : FnOk X.prog X.w X.K X.mg X.base CX0 k f fd ps sp) (b : Binds X.K fd ps []) (hr : Room k X.A) (hx : Passes CX0 X (fun _ _ _ => False)) :
    OpR X (compareOp .NotIn) (rInOwn C sp true) := by
  intro pins s σ H x y v u Q I rx ry ⟨m, dx, fs, ey, hm, hsp⟩
  subst ey
  cases ry
  obtain ⟨mA, J, _⟩ := ins_get I.hok hm
  obtain ⟨od, J, _⟩ := J.look
  obtain ⟨m0, hF⟩ := I.fr
  refine PySem.W.notIn_K hF I.ok.mod.kin J hs hif (wpAny_mono (run_own F b hr rfl hx I (.cons (show RelV (V.ref m) (Value.ref m) from rfl) (.cons rx .nil)) hsp) (fun r s' hq => ?_) fun _ _ z => z)
  obtain ⟨z, H', I', rz, c, ez, q⟩ := hq
  subst ez
  cases rz
  exact wpAny_truthy_bool ⟨.bl (!c), H', I', rfl, q⟩
def rLenOwn (C : Addr) (sp : Sp) : List V → Hp → VK → Prop := fun xs H Q => ∃ m dx fs, xs = [.ref m] ∧ H m = some (.ins C dx fs) ∧ sp [.ref m] H (fun v H2 => ∃ n : Nat, v = .int n ∧ n ≤ sizeLine ∧ Q (.int n) H2) (fun _ _ _ => False)
theorem call_len_own (hs : PySem.W.findIn X.K (.ref C) "__len__" = some (some (.ref f))) (hif : PySem.W.isFn X.K (.ref f) = true) (F : FnOk X.prog X.w X.K X.mg X.base CX0 k f fd ps sp) (b : Binds X.K fd ps []) (hr : Room (k + 1) X.A) (hx : Passes CX0 X (fun _ _ _ => False)) :
    CallR X (.builtin "len") (rLenOwn C sp) := by
  intro pins s σ H xs us Q I r ⟨m, dx, fs, ex, hm, hsp⟩
  subst ex
  obtain ⟨u, rfl, ru⟩ := vals1 r
  cases ru
  obtain ⟨mA, J, _⟩ := ins_get I.hok hm
  obtain ⟨od, J, _⟩ := J.look
  obtain ⟨m0, hF⟩ := I.fr
  refine PySem.W.len_K hF I.ok.mod.kin J hs hif (wpAny_mono (run_own (A := X.A.in1) F b hr.in1 rfl hx I (.cons (show RelV (V.ref m) (Value.ref m) from rfl) .nil) hsp) (fun r s' hq => ?_) fun _ _ z => z)
  obtain ⟨z, H', I', rz, n, ez, hn, q⟩ := hq
  subst ez
  obtain ⟨t, rfl⟩ := rz
  refine ⟨⟨Int.natCast_nonneg _, ?_⟩, ⟨.int n, H', I'.tok _, ⟨_, rfl⟩, q⟩⟩
  rw [sizeLine_eq] at hn
  omega
end
end FS

set_option Elab.async false
set_option linter.all false
set_option maxRecDepth 100000
set_option maxHeartbeats 4000000
/-! == and != by an own __eq__, whatever that answers. -/
namespace FS
open PySem PySem.Spec PyProof.Rows L2
section
variable {prog : Program} {w : World} {A : Around} {E : Value → Shared → Prop} {s : Shared} {K : PySem.W.Frag} {x y C f L : Addr} {h₀ : Heap} {m : Str → Option Value} {ox : Obj} {od : Option Obj}
theorem ne_body {Q : Fin → Shared → Prop} (hu : A.units < cLine) (X : K.In s.heap) (I : PySem.W.InstAt s.heap x ox C od) (hs : PySem.W.findIn K (.ref C) "__eq__" = some (some (.ref f))) (hf : PySem.W.isFn K (.ref f) = true)
    (hc : wpAny (model prog w) A (call (.ref f) [.ref x, .ref y]) (fun v s' => ∃ b, v = .bool b ∧ Q (.done (.ret (.bool (!b)))) s') E s) :
    wpAny (model prog w) A (Builtin.«object.__ne__» ⟨[.ref x, .ref y], []⟩) Q E s := by
  unfold Builtin.«object.__ne__»
  repeat (first
    | with_reducible refine wpAny_cRoomFor hu ?_
    | (refine wpAny_bind (m := callSpecialIfBound? (.ref x) (Str.ofString "__eq__") [.ref y])
        (PySem.W.ifBound_K X I hs hf (wpAny_mono hc (fun r s' hr => by
          obtain ⟨b, e, z⟩ := hr
          subst e
          repeat (first | exact z | exact wpAny_pure z | exact wpAny_truthy_bool z | (refine wpAny_bind (m := truthy (.bool _)) (wpAny_truthy_bool ?_)) | wp_step)) fun _ _ e => e)))
    | wp_step)
theorem ne_bound {args : List Value} {Q : Option Value → Shared → Prop} (X : K.In s.heap) (I : PySem.W.InstAt s.heap x ox C od) (hs : PySem.W.findIn K (.ref C) "__ne__" = some (some (.builtin "object.__ne__")))
    (hc : wpAny (model prog w) A (call (.builtin "object.__ne__") (.ref x :: args)) (fun v => Q (some v)) E s) : wpAny (model prog w) A (callSpecialIfBound? (.ref x) "__ne__" args) Q E s := by
  have rest : wpAny (model prog w) A (call (.builtin "object.__ne__") ([.ref x] ++ args) >>= fun v => pure (some v)) Q E s := wpAny_bind (wpAny_mono hc (fun v s' q => wpAny_pure q) fun _ _ q => q)
  simp only [callSpecialIfBound?, bindSpecialIfBound?]
  apply wpAny_holding
  apply wpAny_bind
  apply wpAny_bind
  apply wpAny_bind
  refine I.type.here ((PySem.W.looks_findIn X hs).here ?_)
  apply wpAny_bind
  apply wpAny_askSetting
  apply wpAny_ite
  split
  · exact wpAny_bind (wpAny_of_eq (F.cmp_object.ne.bind _) (wpAny_pure (by exact rest)))
  · exact wpAny_tryCatch (wpAny_bind (wpAny_of_eq (F.cmp_object.ne.bind _) (wpAny_pure (by exact rest))))
theorem ne_rich {Q : Value → Shared → Prop} (hu : A.units + 1 < cLine) (X : K.In s.heap) (I : PySem.W.InstAt s.heap x ox C od) (hy : PySem.W.Looks (model prog w) s.heap (typeOf (.ref y)) (.ref C))
    (hm : PySem.W.mroIn K C (.type "object") = some true) (hn : PySem.W.findIn K (.ref C) "__ne__" = some (some (.builtin "object.__ne__"))) (hs : PySem.W.findIn K (.ref C) "__eq__" = some (some (.ref f))) (hf : PySem.W.isFn K (.ref f) = true)
    (hc : wpAny (model prog w) A.in1 (call (.ref f) [.ref x, .ref y]) (fun v s' => ∃ b, v = .bool b ∧ Q (.bool (!b)) s') E s) : wpAny (model prog w) A (richCompare .NotEq (.ref x) (.ref y)) Q E s := by
  have one : wpAny (model prog w) A (tryCompare (.ref x) "__ne__" (.ref y)) (fun r s' => ∃ b, r = some (.bool b) ∧ Q (.bool b) s') E s := by
    unfold tryCompare
    apply wpAny_bind
    refine ne_bound X I hn ?_
    refine wpAny_call (codeAny_call_builtin F.cmp_object.ne.plain F.cmpEntry_ne (PySem.W.check_slot F.cmpKind_ne F.cmpSplit_ne (I.type.andThen (PySem.W.looks_mroIn X hm)) (F.cmpArgs_ne _ _) (ne_body (A := A.in1) (f := f) ?_ X I hs hf (wpAny_mono hc (fun v s' q => ?_) fun _ _ q => q))))
    · show A.units + 1 < cLine
      exact hu
    · obtain ⟨b, e, z⟩ := q
      exact ⟨b, e, wpAny_pure ⟨_, rfl, z⟩⟩
  unfold richCompare
  simp only [oneThing_ref]
  apply wpAny_holding
  apply wpAny_bind
  refine wpAny_cRoomFor (Nat.lt_of_succ_lt hu) ?_
  rw [cmpInfo_NotEq]
  dsimp only
  apply wpAny_bind
  refine I.type.here ?_
  apply wpAny_bind
  refine hy.here ?_
  split
  · rename_i z
    simp at z
  · apply wpAny_bind
    apply wpAny_pure
    simp only [Bool.false_eq_true, if_false]
    apply wpAny_bind
    refine wpAny_mono one (fun r s' q => ?_) fun _ _ q => q
    obtain ⟨b, e, z⟩ := q
    subst e
    exact wpAny_pure z
end
section
variable {X : Cx} {n : Nat} {C f : Addr} {fd : FuncData} {ps : List Str} {sp : Sp} {CX : CXT} {E : XK}
def rEqO (C : Addr) (sp : Sp) (E : XK) (g : Bool → Bool) : R2 := fun x y H Q => ∃ a b dx dy fs gs, x = .ref a ∧ y = .ref b ∧ H a = some (.ins C dx fs) ∧ H b = some (.ins C dy gs) ∧ sp [.ref a, .ref b] H (fun v H' => ∃ c, v = .bl c ∧ Q (.bl (g c)) H') E
/-- the own == runs -/
theorem run_eqO {A : Around} {pins : List (Addr × Obj)} {s : Shared} {σ : L2.St} {H : Hp} {a b : Addr} {Z : V → Hp → Prop} (F : FnOk X.prog X.w X.K X.mg X.base CX n f fd ps sp) (hb : Binds X.K fd ps []) (hx : Passes CX X E) (room : Room n A) (fr : A.frames = X.A.frames)
    (I : Inv X pins σ H s) (q : sp [.ref a, .ref b] H Z E) : wpAny (model X.prog X.w) A (call (.ref f) [.ref a, .ref b]) (EP X pins σ Z) X.xe s := by
  have r2 : Vals [V.ref a, V.ref b] [Value.ref a, Value.ref b] := .cons rfl (.cons rfl .nil)
  have hl := F.len _ _ _ _ q
  have e0 : Env0 X.prog X.w X.K X.mg X.base A X.stack s H := by
    have e := I.env0
    exact ⟨by rw [fr]; exact e.frames, e.mod, e.bs, e.bsz, e.funs, e.frf, e.hok, e.bare⟩
  have bd := hb s [.ref a, .ref b] I.kIn (by rw [List.append_nil]; exact hl)
  rw [List.append_nil] at bd
  refine wpAny_call (codeAny_mono (F.run A X.stack s H ⟨[.ref a, .ref b], []⟩ _ _ Z E room e0 bd r2 q) fun r s' o => ?_)
  match r, o with
  | .error er, o => exact hx pins σ H s er s' I o
  | .ok (.ret u), o => exact I.after o
  | .ok .next, o => exact o.elim
  | .ok .brk, o => exact o.elim
  | .ok .cont, o => exact o.elim
theorem op_eqO (F : FnOk X.prog X.w X.K X.mg X.base CX n f fd ps sp) (hs : PySem.W.findIn X.K (.ref C) "__eq__" = some (some (.ref f))) (hf : PySem.W.isFn X.K (.ref f) = true) (hb : Binds X.K fd ps []) (hx : Passes CX X E) (hr : Room n X.A) :
    OpR X (compareOp .Eq) (rEqO C sp E id) := by
  intro pins s σ H x y v u Q I rx ry hq
  obtain ⟨a, b, dx, dy, fs, gs, rfl, rfl, ha, hb', q⟩ := hq
  cases rx
  cases ry
  obtain ⟨mA, J, _⟩ := ins_get I.hok ha
  obtain ⟨mB, J', _⟩ := ins_get I.hok hb'
  obtain ⟨od, J, _⟩ := J.look
  obtain ⟨od', J', _⟩ := J'.look
  obtain ⟨m, hF⟩ := I.fr
  show wpAny (model X.prog X.w) X.A (richCompare .Eq (.ref a) (.ref b)) (EP X pins σ Q) X.xe s
  refine PySem.W.cmp_K (op := .Eq) (tb := .ref C) hr.units0 hF I.ok.mod.kin J J'.type (by simp [PySem.W.notFirst]) hs hf ?_
  refine thn (run_eqO F hb hx hr rfl I q) fun z s' ⟨v1, H', I', rz, c, ec, qc⟩ => ?_
  subst ec
  cases rz
  exact ⟨.bl c, H', I', rfl, qc⟩
theorem op_neO (F : FnOk X.prog X.w X.K X.mg X.base CX n f fd ps sp) (hm : PySem.W.mroIn X.K C (.type "object") = some true) (hn : PySem.W.findIn X.K (.ref C) "__ne__" = some (some (.builtin "object.__ne__"))) (hs : PySem.W.findIn X.K (.ref C) "__eq__" = some (some (.ref f))) (hf : PySem.W.isFn X.K (.ref f) = true)
    (hb : Binds X.K fd ps []) (hx : Passes CX X E) (hr : Room (n + 1) X.A) : OpR X (compareOp .NotEq) (rEqO C sp E (!·)) := by
  intro pins s σ H x y v u Q I rx ry hq
  obtain ⟨a, b, dx, dy, fs, gs, rfl, rfl, ha, hb', q⟩ := hq
  cases rx
  cases ry
  obtain ⟨mA, J, _⟩ := ins_get I.hok ha
  obtain ⟨mB, J', _⟩ := ins_get I.hok hb'
  obtain ⟨od, J, _⟩ := J.look
  obtain ⟨od', J', _⟩ := J'.look
  show wpAny (model X.prog X.w) X.A (richCompare .NotEq (.ref a) (.ref b)) (EP X pins σ Q) X.xe s
  refine ne_rich (f := f) (Nat.lt_of_le_of_lt (Nat.add_le_add_left (by decide : 1 ≤ 64) _) hr.units) I.kIn J J'.type hm hn hs hf ?_
  refine thn (run_eqO F hb hx hr.in1 rfl I q) fun z s' ⟨v1, H', I', rz, c, ec, qc⟩ => ?_
  subst ec
  cases rz
  exact ⟨c, rfl, .bl (!c), H', I', rfl, qc⟩
end
end FS

set_option Elab.async false
set_option linter.all false
set_option maxRecDepth 100000
set_option maxHeartbeats 4000000
/-! == by an own method, a text on the right. -/
namespace FS
open PySem PySem.Spec PyProof.Rows L2
section
variable {X : Cx} {n : Nat} {C f : Addr} {fd : FuncData} {ps : List Str} {sp : Sp} {CX : CXT} {E : XK}
def rEqOS (C : Addr) (sp : Sp) (E : XK) : R2 := fun x y H Q => ∃ a z dx fs, x = .ref a ∧ y = .str z ∧ H a = some (.ins C dx fs) ∧ sp [.ref a, .str z] H (fun v H' => ∃ c, v = .bl c ∧ Q (.bl c) H') E
theorem run_eqS {A : Around} {pins : List (Addr × Obj)} {s : Shared} {σ : L2.St} {H : Hp} {a : Addr} {y : V} {u : Value} {Z : V → Hp → Prop} (F : FnOk X.prog X.w X.K X.mg X.base CX n f fd ps sp) (hb : Binds X.K fd ps []) (hx : Passes CX X E) (room : Room n A) (fr : A.frames = X.A.frames)
    (I : Inv X pins σ H s) (ry : L2.RelV y u) (q : sp [.ref a, y] H Z E) : wpAny (model X.prog X.w) A (call (.ref f) [.ref a, u]) (EP X pins σ Z) X.xe s := by
  have rr : Vals [V.ref a, y] [Value.ref a, u] := .cons rfl (.cons ry .nil)
  have few := F.len _ _ _ _ q
  have e0 : Env0 X.prog X.w X.K X.mg X.base A X.stack s H := by
    have e := I.env0
    exact ⟨by rw [fr]; exact e.frames, e.mod, e.bs, e.bsz, e.funs, e.frf, e.hok, e.bare⟩
  have bd := hb s [.ref a, u] I.kIn (by rw [List.append_nil]; exact few)
  rw [List.append_nil] at bd
  refine wpAny_call (codeAny_mono (F.run A X.stack s H ⟨[.ref a, u], []⟩ _ _ Z E room e0 bd rr q) fun r t o => ?_)
  match r, o with
  | .error er, o => exact hx pins σ H s er t I o
  | .ok (.ret v), o => exact I.after o
  | .ok .next, o | .ok .brk, o | .ok .cont, o => exact o.elim
theorem op_eqOS (F : FnOk X.prog X.w X.K X.mg X.base CX n f fd ps sp) (hs : PySem.W.findIn X.K (.ref C) "__eq__" = some (some (.ref f))) (hf : PySem.W.isFn X.K (.ref f) = true) (hn : PySem.W.subIn X.K (.type "str") (.ref C) = some false) (hb : Binds X.K fd ps []) (hx : Passes CX X E) (hr : Room n X.A) :
    OpR X (compareOp .Eq) (rEqOS C sp E) := by
  intro pins s σ H x y v u Q I rx ry hq
  obtain ⟨a, z, dx, fs, rfl, rfl, ha, q⟩ := hq
  cases rx
  obtain ⟨t, rfl⟩ := ry
  obtain ⟨mA, J, _⟩ := ins_get I.hok ha
  obtain ⟨od, J, _⟩ := J.look
  obtain ⟨m, hF⟩ := I.fr
  show wpAny (model X.prog X.w) X.A (richCompare .Eq (.ref a) (.str z t)) (EP X pins σ Q) X.xe s
  refine PySem.W.cmp_K (op := .Eq) (tb := .type "str") hr.units0 hF I.ok.mod.kin J (fun A Q E s k q => wpAny_typeOf (typeIs_str _ _ _) q) (by simp [PySem.W.notFirst, hn]) hs hf ?_
  refine thn (run_eqS (y := .str z) F hb hx hr rfl I ⟨t, rfl⟩ q) fun w s' ⟨v1, H', I', rz, c, ec, qc⟩ => ?_
  subst ec
  cases rz
  exact ⟨.bl c, H', I', rfl, qc⟩
end
end FS

set_option Elab.async false
set_option linter.all false
set_option maxRecDepth 100000
set_option maxHeartbeats 4000000
/-! The text of a tree; questions. -/
namespace AQ
open PySem PySem.Spec PyProof.Rows L2 L2.FK FS TX
theorem s_len (a b : Str) : (a ++ b).length = a.length + b.length := by
  rw [← len_cps (a ++ b), ← len_cps a, ← len_cps b]
  show (cs (a ++ b)).length = _
  rw [cs_app, List.length_append]
theorem flat_txt : ∀ l : List Str, (l.map V.str).all flatV = true
  | [] => rfl
  | x :: r => by
    rw [List.map_cons, List.all_cons, flat_txt r]
    rfl
def sg : Tr → Prop
  | .word _ => True
  | .road _ t => sg t
  | .bin g a b => (g = "&" ∨ g = "|" ∨ g = "-") ∧ sg a ∧ sg b
theorem Ok.sg : ∀ {t : Tr}, Ok t → AQ.sg t
  | .word _, _ => True.intro
  | .road _ t, o => Ok.sg (t := t) o.2.2.2
  | .bin _ a b, o => ⟨o.1, Ok.sg o.2.1, Ok.sg o.2.2⟩
def hd : Tr → Str
  | .word _ => "word"
  | .road _ _ => "road"
  | .bin g _ _ => g
def SIGNS : List Str := ["&", "|", "-"]
theorem hd_l {t : Tr} : LOOSE.contains (hd t) = isL t := by
  cases t with
  | word w => show LOOSE.contains "word" = false; decide +kernel
  | road r t => show LOOSE.contains "road" = false; decide +kernel
  | bin g a b => rfl
theorem hd_s {t : Tr} (h : sg t) : SIGNS.contains (hd t) = (isL t || isA t) := by
  cases t with
  | word w => show SIGNS.contains "word" = false; decide +kernel
  | road r t => show SIGNS.contains "road" = false; decide +kernel
  | bin g a b =>
    show SIGNS.contains g = (LOOSE.contains g || decide (g = "&"))
    rcases h.1 with rfl | rfl | rfl <;> decide +kernel
theorem TrAt.head {H : Hp} {v : V} {t : Tr} (h : TrAt "road" H v t) : ∃ q rest, v = .ref q ∧ H q = some (.tup (.str (hd t) :: rest)) := by
  cases t with
  | word w => obtain ⟨q, e, h⟩ := h; exact ⟨q, _, e, h⟩
  | road r t => obtain ⟨q, u, e, h, _⟩ := h; exact ⟨q, _, e, h⟩
  | bin g a b => obtain ⟨q, x, y, e, h, _⟩ := h; exact ⟨q, _, e, h⟩
theorem par_len (b : Bool) (z : Str) : (par b z).length ≤ z.length + 2 ∧ z.length ≤ (par b z).length := by
  unfold par
  cases b with
  | true =>
    rw [if_pos rfl, s_len, s_len]
    have e1 : ("(" : Str).length = 1 := by decide +kernel
    have e2 : (")" : Str).length = 1 := by decide +kernel
    omega
  | false => rw [if_neg (by simp)]; omega
theorem line6 {n : Nat} (h : n ≤ 200000) : n ≤ sizeLine := Nat.le_trans h (by decide)
section
variable {P : Program} {w : World} {K : PySem.W.Frag} {mg : Str → Option Value} {base : Heap} {aO aR dF aWO aRD aLS aSG CPt CBQ fBQ CQ : Addr} {es : Array DictEntry} {nF : Nat} {tF : Str → Addr}
def spTT (e : Nat) : Sp := fun vs H Q _ => ∃ v t, vs = [v] ∧ TrAt "road" H v t ∧ sg t ∧ dep t ≤ e ∧ (tt t).length ≤ 100000 ∧ Q (.str (tt t)) H
def spWi (K : PySem.W.Frag) (e : Nat) : Sp := fun vs H Q _ => ∃ (v : V) (sa : Addr) (gs : List Str) (t : Tr), vs = [v, .ref sa] ∧ SqT K H sa (gs.map V.str) ∧ TrAt "road" H v t ∧ sg t ∧ dep t ≤ e ∧ (tt t).length ≤ 100000 ∧ Q (.str (par (gs.contains (hd t)) (tt t))) H
theorem scWi : FnScope ["tree", "signs", "text"] ["tree", "signs"] (defScope (sAsk 8)) := ⟨rfl, rfl, rfl, by decide +kernel, rfl, by decide +kernel, by decide +kernel⟩
theorem ok_within {f fT : Addr} {fd fdT : FuncData} {e k : Nat} (F : Fun K "within" "within" (sAsk 8) f fd)
    (GT : FnOk P w K mg base CX0 k fT fdT ["tree"] (spTT e)) (bT : Binds K fdT ["tree"] []) (gT : mg "tree_text" = some (.ref fT)) (kT : PySem.W.keepIn K (.ref fT) = true) : FnOk P w K mg base CX0 (k + 1) f fd ["tree", "signs"] (spWi K e) := by
  refine F.ok scWi (fun vs H Q E h => ?_) (fun cdv A outer sh H vs Q E hr h => ?_)
  · obtain ⟨v, sa, gs, t, rfl, _⟩ := h
    rfl
  · obtain ⟨v, sa, gs, t, rfl, hS, tr, hsg, hd', hl, q⟩ := h
    refine ⟨_, pss_cons (ps_set (i := 2) scWi.nd rfl (.inl rfl) (pe_call GT hr rfl gT kT bT .nil pass0 (pa_cons (pv 0) pa_nil)))
      (pss_one (ps_ret (pe_ifExp (pt_cmpR op_in_seq (pe_ix ix_tup (pv 0) pe_int (fun _ _ => rfl)) (pv 1) (by rfl)) (pe_joined (.cons pe_str (.cons (pe_fmt (pv 2)) (.cons pe_str .nil)))) (pv 2)))), ?_⟩
    refine ⟨v, rfl, v, t, rfl, tr, hsg, hd', hl, ?_⟩
    obtain ⟨q0, rest, rfl, e0⟩ := tr.head
    refine ⟨.ref q0, rfl, q0, _, 0, .str (hd t), rfl, rfl, SqT.of e0, atI_nat (j := 0) rfl, .ref sa, rfl, sa, _, rfl, .inr hS, rfl, flat_txt gs, ?_⟩
    rw [show (if false = true then !inV (V.str (hd t)) (gs.map V.str) else inV (V.str (hd t)) (gs.map V.str)) = gs.contains (hd t) from inV_txt _ _]
    refine ⟨_, rfl, ?_⟩
    cases hc : gs.contains (hd t) with
    | true =>
      rw [hc] at q
      have pl := par_len true (tt t)
      have l1 : (Str.empty ++ "(" : Str).length = 1 := by decide +kernel
      have l2 : (")" : Str).length = 1 := by decide +kernel
      refine iteT ⟨"(", rfl, by rw [l1]; decide, .str (tt t), rfl, .inl ⟨tt t, rfl, line6 (by omega), tt t, rfl, by rw [s_len, l1]; exact line6 (by omega), ")", rfl, by rw [s_len, s_len, l1, l2]; exact line6 (by omega), ?_⟩⟩
      have e1 : (((Str.empty ++ "(" : Str) ++ tt t) ++ ")" : Str) = par true (tt t) := by
        unfold par
        rw [if_pos rfl, show (Str.empty ++ "(" : Str) = "(" from by decide +kernel]
      show Q (.str ((((Str.empty ++ "(" : Str) ++ tt t) ++ ")" : Str))) H
      rw [e1]
      exact q
    | false =>
      rw [hc] at q
      exact iteF ⟨.str (tt t), rfl, q⟩
/-! ### tree_text -/
theorem scTT : FnScope ["tree"] ["tree"] (defScope (sAsk 9)) := ⟨rfl, rfl, rfl, by decide +kernel, rfl, by decide +kernel, by decide +kernel⟩
theorem ok_tt0 {f : Addr} {fd : FuncData} (F : Fun K "tree_text" "tree_text" (sAsk 9) f fd) : FnOk P w K mg base CX0 1 f fd ["tree"] (spTT 0) := by
  refine F.ok scTT (fun vs H Q E h => ?_) (fun cdv A outer sh H vs Q E hr h => ?_)
  · obtain ⟨v, t, rfl, _⟩ := h
    rfl
  · obtain ⟨v, t, rfl, tr, hsg, hd', hl, q⟩ := h
    refine ⟨_, pss_cons (ps_if (pt_cmpR op_eq (pe_ix ix_tup (pv 0) pe_int (fun _ _ => rfl)) pe_str (nomark _)) (pss_one (ps_ret (pe_ix ix_tup (pv 0) pe_int (fun _ _ => rfl)))) pss_nil) (pss_cons ps_never (pss_cons ps_never (pss_one ps_never))), ?_⟩
    cases t with
    | word w' =>
      obtain ⟨q0, rfl, e0⟩ := tr
      refine ⟨.ref q0, rfl, q0, _, 0, _, rfl, rfl, SqT.of e0, atI_nat (j := 0) rfl, rfl, _, rfl, ?_⟩
      exact iteT ⟨.ref q0, rfl, q0, _, 1, _, rfl, rfl, SqT.of e0, atI_nat (j := 1) rfl, q⟩
    | road r t => exact absurd hd' (by show ¬ dep t + 1 ≤ 0; omega)
    | bin g a b => exact absurd hd' (by show ¬ max (dep a) (dep b) + 1 ≤ 0; omega)
theorem ok_ttS {f fW fT : Addr} {fd fdW fdT : FuncData} {e k : Nat} (F : Fun K "tree_text" "tree_text" (sAsk 9) f fd) (T : TQ K mg aWO aRD aLS aSG CPt)
    (GT : FnOk P w K mg base CX0 k fT fdT ["tree"] (spTT e)) (bT : Binds K fdT ["tree"] []) (gT : mg "tree_text" = some (.ref fT)) (kT : PySem.W.keepIn K (.ref fT) = true)
    (GW : FnOk P w K mg base CX0 (k + 1) fW fdW ["tree", "signs"] (spWi K e)) (bW : Binds K fdW ["tree", "signs"] []) (gW : mg "within" = some (.ref fW)) (kW : PySem.W.keepIn K (.ref fW) = true) : FnOk P w K mg base CX0 (k + 2) f fd ["tree"] (spTT (e + 1)) := by
  refine F.ok scTT (fun vs H Q E h => ?_) (fun cdv A outer sh H vs Q E hr h => ?_)
  · obtain ⟨v, t, rfl, _⟩ := h
    rfl
  · obtain ⟨v, t, rfl, tr, hsg, hd', hl, q⟩ := h
    have hr1 : Room k _ := hr.mono (by omega)
    refine ⟨_, pss_cons (ps_if (pt_cmpR op_eq (pe_ix ix_tup (pv 0) pe_int (fun _ _ => rfl)) pe_str (nomark _)) (pss_one (ps_ret (pe_ix ix_tup (pv 0) pe_int (fun _ _ => rfl)))) pss_nil)
      (pss_cons (ps_if (pt_cmpR op_eq (pe_ix ix_tup (pv 0) pe_int (fun _ _ => rfl)) pe_str (nomark _)) (pss_one (ps_ret (pe_joined (.cons (pe_fmt (pe_ix ix_tup (pv 0) pe_int (fun _ _ => rfl))) (.cons pe_str (.cons (pe_fmt (pe_call GT hr1 rfl gT kT bT .nil pass0 (pa_cons (pe_ix ix_tup (pv 0) pe_int (fun _ _ => rfl)) pa_nil))) (.cons pe_str .nil))))))) pss_nil)
      (pss_cons (ps_if (pt_cmpR op_eq (pe_ix ix_tup (pv 0) pe_int (fun _ _ => rfl)) pe_str (nomark _))
          (pss_one (ps_ret (pe_op op_add_str (pe_op op_add_str (pe_call GW hr rfl gW kW bW .nil pass0 (pa_cons (pe_ix ix_tup (pv 0) pe_int (fun _ _ => rfl)) (pa_cons (pe_glob rfl T.gS (v := .ref aLS) rfl) pa_nil))) pe_str) (pe_call GW hr rfl gW kW bW .nil pass0 (pa_cons (pe_ix ix_tup (pv 0) pe_int (fun _ _ => rfl)) (pa_cons (pe_glob rfl T.gG (v := .ref aSG) rfl) pa_nil)))))) pss_nil)
      (pss_one (ps_ret (pe_op op_add_str (pe_op op_add_str (pe_call GT hr1 rfl gT kT bT .nil pass0 (pa_cons (pe_ix ix_tup (pv 0) pe_int (fun _ _ => rfl)) pa_nil)) (pe_joined (.cons pe_str (.cons (pe_fmt (pe_ix ix_tup (pv 0) pe_int (fun _ _ => rfl))) (.cons pe_str .nil))))) (pe_call GW hr rfl gW kW bW .nil pass0 (pa_cons (pe_ix ix_tup (pv 0) pe_int (fun _ _ => rfl)) (pa_cons (pe_glob rfl T.gS (v := .ref aLS) rfl) pa_nil)))))))), ?_⟩
    cases t with
    | word w' =>
      obtain ⟨q0, rfl, e0⟩ := tr
      refine ⟨.ref q0, rfl, q0, _, 0, _, rfl, rfl, SqT.of e0, atI_nat (j := 0) rfl, rfl, _, rfl, ?_⟩
      exact iteT ⟨.ref q0, rfl, q0, _, 1, _, rfl, rfl, SqT.of e0, atI_nat (j := 1) rfl, q⟩
    | road r t =>
      obtain ⟨q0, u, rfl, e0, tr⟩ := tr
      have hd2 : dep t ≤ e := by have : dep t + 1 ≤ e + 1 := hd'; omega
      have et : (tt (.road r t)) = r ++ "(" ++ tt t ++ ")" := rfl
      have c1 : ("(" : Str).length = 1 := by decide +kernel
      have c2 : (")" : Str).length = 1 := by decide +kernel
      have hl2 : r.length + 1 + (tt t).length + 1 ≤ 100000 := by
        rw [et, s_len, s_len, s_len, c1, c2] at hl
        exact hl
      have em : (Str.empty ++ r : Str) = r := str_cs (by rw [cs_app]; rfl)
      refine ⟨.ref q0, rfl, q0, _, 0, _, rfl, rfl, SqT.of e0, atI_nat (j := 0) rfl, rfl, _, rfl, ?_⟩
      rw [show decide (V.str "road" = V.str "word") = false from by decide +kernel]
      refine iteF ⟨.ref q0, rfl, q0, _, 0, _, rfl, rfl, SqT.of e0, atI_nat (j := 0) rfl, rfl, _, rfl, ?_⟩
      rw [show decide (V.str "road" = V.str "road") = true from by decide +kernel]
      refine iteT ⟨.ref q0, rfl, q0, _, 1, _, rfl, rfl, SqT.of e0, atI_nat (j := 1) rfl, .inl ⟨r, rfl, line6 (by omega), r, rfl, by rw [em]; exact line6 (by omega), "(", rfl, by rw [s_len, em, c1]; exact line6 (by omega), ?_⟩⟩
      refine ⟨.ref q0, rfl, q0, _, 2, _, rfl, rfl, SqT.of e0, atI_nat (j := 2) rfl, u, t, rfl, tr, hsg, hd2, by omega, .inl ⟨tt t, rfl, line6 (by omega), tt t, rfl, by rw [s_len, s_len, em, c1]; exact line6 (by omega), ")", rfl, by rw [s_len, s_len, s_len, em, c1, c2]; exact line6 (by omega), ?_⟩⟩
      show Q (.str ((((Str.empty ++ r : Str) ++ "(") ++ tt t) ++ ")")) H
      rw [em, ← et]
      exact q
    | bin g a b =>
      obtain ⟨q0, x, y, rfl, e0, ta, tb⟩ := tr
      obtain ⟨hg, ga, gb⟩ := hsg
      have hda : dep a ≤ e ∧ dep b ≤ e := by have : max (dep a) (dep b) + 1 ≤ e + 1 := hd'; omega
      have et : tt (.bin g a b) = if g = "&" then par (isL a) (tt a) ++ " & " ++ par (isL b || isA b) (tt b) else tt a ++ ((" " : Str) ++ g ++ " ") ++ par (isL b) (tt b) := rfl
      refine ⟨.ref q0, rfl, q0, _, 0, _, rfl, rfl, SqT.of e0, atI_nat (j := 0) rfl, rfl, _, rfl, ?_⟩
      rw [show decide (V.str g = V.str "word") = false from by rw [str_ne]; rcases hg with rfl | rfl | rfl <;> decide +kernel]
      refine iteF ⟨.ref q0, rfl, q0, _, 0, _, rfl, rfl, SqT.of e0, atI_nat (j := 0) rfl, rfl, _, rfl, ?_⟩
      rw [show decide (V.str g = V.str "road") = false from by rw [str_ne]; rcases hg with rfl | rfl | rfl <;> decide +kernel]
      refine iteF ⟨.ref q0, rfl, q0, _, 0, _, rfl, rfl, SqT.of e0, atI_nat (j := 0) rfl, rfl, _, rfl, ?_⟩
      rw [str_ne]
      have pa := par_len (isL a) (tt a)
      have pb := par_len (isL b) (tt b)
      have pc := par_len (isL b || isA b) (tt b)
      have c3 : (" & " : Str).length = 3 := by decide +kernel
      have c1 : (" " : Str).length = 1 := by decide +kernel
      by_cases h : g = "&"
      · rw [decide_eq_true h]
        rw [if_pos h] at et
        have hl2 : (par (isL a) (tt a)).length + 3 + (par (isL b || isA b) (tt b)).length ≤ 100000 := by
          rw [et, s_len, s_len, c3] at hl
          exact hl
        refine iteT ⟨.ref q0, rfl, q0, _, 1, _, rfl, rfl, SqT.of e0, atI_nat (j := 1) rfl, x, aLS, LOOSE, a, rfl, T.kS.sq H, ta, ga, hda.1, by omega, ?_⟩
        rw [hd_l]
        have hs := hd_s gb
        refine ⟨_, _, rfl, rfl, by rw [c3]; exact line6 (by omega), .ref q0, rfl, q0, _, 2, _, rfl, rfl, SqT.of e0, atI_nat (j := 2) rfl, y, aSG, SIGNS, b, rfl, T.kG.sq H, tb, gb, hda.2, by omega, _, _, rfl, rfl, by rw [s_len, c3, hs]; exact line6 (by omega), ?_⟩
        show Q (.str ((par (isL a) (tt a) ++ " & ") ++ par (SIGNS.contains (hd b)) (tt b))) H
        rw [hs, ← et]
        exact q
      · rw [decide_eq_false h]
        rw [if_neg h] at et
        have hl2 : (tt a).length + (1 + g.length + 1) + (par (isL b) (tt b)).length ≤ 100000 := by
          rw [et, s_len, s_len, s_len, s_len, c1] at hl
          exact hl
        have em : (Str.empty ++ " " : Str) = " " := by decide +kernel
        refine iteF ⟨.ref q0, rfl, q0, _, 1, _, rfl, rfl, SqT.of e0, atI_nat (j := 1) rfl, x, a, rfl, ta, ga, hda.1, by omega, " ", rfl, by rw [em, c1]; decide, .ref q0, rfl, q0, _, 0, _, rfl, rfl, SqT.of e0, atI_nat (j := 0) rfl, .inl ⟨g, rfl, line6 (by omega), g, rfl, by rw [em, s_len, c1]; exact line6 (by omega), " ", rfl, by rw [em, s_len, s_len, c1]; exact line6 (by omega), ?_⟩⟩
        refine ⟨_, _, rfl, rfl, by rw [em, s_len, s_len, c1]; exact line6 (by omega), .ref q0, rfl, q0, _, 2, _, rfl, rfl, SqT.of e0, atI_nat (j := 2) rfl, y, aLS, LOOSE, b, rfl, T.kS.sq H, tb, gb, hda.2, by omega, ?_⟩
        rw [hd_l]
        refine ⟨_, _, rfl, rfl, by rw [em, s_len, s_len, s_len, c1]; exact line6 (by omega), ?_⟩
        show Q (.str ((tt a ++ (((Str.empty ++ " " : Str) ++ g) ++ " ")) ++ par (isL b) (tt b))) H
        rw [em, ← et]
        exact q
/-! ### Question -/
abbrev sQu (j : Nat) : Stmt := inClass (TX.top 81) j
def QAt (CQ : Addr) (H : Hp) (a : Addr) (t : Tr) : Prop := ∃ dx v, H a = some (.ins CQ dx [("_tree", v), ("_text", .str (tt t))])
structure TCl (K : PySem.W.Frag) (C : Addr) : Prop where
  cC : PySem.W.findIn K (.ref C) "__class__" = some (some (.builtin "object.__class__"))
  hn : PySem.W.specialIn K (.builtin "object.__class__") "__get__" = some (some (.builtin "getset_descriptor.__get__"))
  ht : PySem.W.takesIn K (.builtin "object.__class__") = some true
  hm : PySem.W.mroIn K C (.type "object") = some true
theorem kit_self {K : PySem.W.Frag} {C : Addr} : PySem.W.kitOne K (.ref C) (.ref C) = some true := by
  unfold PySem.W.kitOne
  rw [if_pos (by simp)]
structure TU (K : PySem.W.Frag) (CQ : Addr) : Prop where
  cQ : Cls K CQ
  tC : TCl K CQ
  kS : PySem.W.kitOne K (.type "str") (.ref CQ) = some false
  suS : PySem.W.subIn K (.type "str") (.ref CQ) = some false
  nR : NoAttr K CQ "_tree"
  nX : NoAttr K CQ "_text"
def spQI (K : PySem.W.Frag) (CBQ CQ : Addr) (D : Nat) : Sp := fun vs H Q E => ∃ a dx v, vs = [.ref a, v] ∧ H a = some (.ins CQ dx []) ∧ ((∃ z, v = .str z ∧ z.length ≤ 100000 ∧
    (okT z = true → z.length ≤ 200 → ∃ r, Lo 8 (skip (cs z)) r ∧ (∀ t s', r = .ok t s' → tok s' = "" → sg t ∧ dep t ≤ D ∧ (tt t).length ≤ 100000 ∧ ∀ H', Off a H H' → QAt CQ H' a t → Q .non H') ∧
      (∀ t s', r = .ok t s' → tok s' ≠ "" → ∀ d H', Same H H' → H' d = some (.xd [("place", .int (plc z s'))]) → E (.ref CBQ) (some d) H') ∧ (∀ e, r = .er e → ∀ d H', Same H H' → H' d = some (.xd [("place", .int (plc z e))]) → E (.ref CBQ) (some d) H')) ∧
    (okT z = true → 200 < z.length → ∀ d H', Same H H' → H' d = some (.xd [("place", .int 200)]) → E (.ref CBQ) (some d) H') ∧ (okT z = false → ∀ d H', Same H H' → H' d = some (.xd [("place", .non)]) → E (.ref CBQ) (some d) H')) ∨
  (NoStr K H v ∧ ∀ d H', Same H H' → H' d = some (.xd [("place", .non)]) → E (.ref CBQ) (some d) H'))
theorem scQI : FnScope ["self", "text"] ["self", "text"] (defScope (sQu 0)) := ⟨rfl, rfl, rfl, by decide +kernel, rfl, by decide +kernel, by decide +kernel⟩
theorem ok_quI {f fR fT : Addr} {fd fdR fdT : FuncData} {k kt D : Nat} (F : Fun K "__init__" "Question.__init__" (sQu 0) f fd) (T : TU K CQ) (hkt : kt ≤ k)
    (GR : FnOk P w K mg base (L2.CX P w) k fR fdR ["text"] (spRQ K CBQ)) (bR : Binds K fdR ["text"] []) (gR : mg "read_question" = some (.ref fR)) (kR : PySem.W.keepIn K (.ref fR) = true)
    (GT : FnOk P w K mg base CX0 kt fT fdT ["tree"] (spTT D)) (bT : Binds K fdT ["tree"] []) (gT : mg "tree_text" = some (.ref fT)) (kT : PySem.W.keepIn K (.ref fT) = true) :
    FnOk P w K mg base (L2.CX P w) (k + 1) f fd ["self", "text"] (spQI K CBQ CQ D) := by
  refine F.okX scQI (fun vs H Q E h => ?_) (fun cdv A outer sh H vs Q E hr h => ?_)
  · obtain ⟨a, dx, v, rfl, _⟩ := h
    rfl
  · obtain ⟨a, dx, v, rfl, ha, q⟩ := h
    refine ⟨_, pss_cons (ps_fld (pv 0) (pe_call (E := E) GR hr rfl gR kR bR .nil (passes_call (takes_of rfl rfl rfl rfl) (fun _ _ _ _ h => h)) (pa_cons (pv 1) pa_nil)) rfl)
      (pss_one (ps_fld (pv 0) (pe_call GT (hr.mono hkt) rfl gT kT bT .nil pass0 (pa_cons (pe_fld (pv 0) rfl) pa_nil)) rfl)), ?_⟩
    rcases q with ⟨z, rfl, hz, q0, q1, q2⟩ | ⟨ns, q⟩
    · refine ⟨.str z, rfl, .str z, rfl, .inl ⟨z, rfl, hz, fun h hl => ?_, q1, q2⟩⟩
      obtain ⟨r, L, k0, k1, k2⟩ := q0 h hl
      refine ⟨r, L, fun t s' er ht H1 v s1 tr => ?_, k1, k2⟩
      obtain ⟨g1, g2, g3, g4⟩ := k0 t s' er ht
      have a1 := s1 _ _ ha
      refine ⟨.ref a, rfl, a, CQ, dx, _, rfl, a1, T.cQ, T.nR, (show 0 < 1000 by decide), ?_⟩
      have tr2 : TrAt "road" (upd H1 a (.ins CQ dx [("_tree", v)])) v t := tr.mono (Tk.off Off.put a1)
      refine ⟨.ref a, rfl, a, CQ, dx, _, v, rfl, upd_same, T.cQ, T.nR, rfl, v, t, rfl, tr2, g1, g2, g3, ?_⟩
      refine ⟨.ref a, rfl, a, CQ, dx, _, rfl, upd_same, T.cQ, T.nX, (show 1 < 1000 by decide), ?_⟩
      exact g4 _ (((Off.of s1).trans Off.put).trans Off.put) ⟨dx, v, upd_same⟩
    · exact ⟨v, rfl, v, rfl, .inr ⟨ns, q⟩⟩
def spQT (CQ : Addr) : Sp := fun vs H Q _ => ∃ a t, vs = [.ref a] ∧ QAt CQ H a t ∧ Q (.str (tt t)) H
theorem scQT : FnScope ["self"] ["self"] (defScope (sQu 1)) := ⟨rfl, rfl, rfl, by decide +kernel, rfl, by decide +kernel, by decide +kernel⟩
theorem ok_quT {f : Addr} {fd : FuncData} (F : Fun K "text" "Question.text" (sQu 1) f fd) (T : TU K CQ) : FnOk P w K mg base CX0 1 f fd ["self"] (spQT CQ) := by
  refine F.ok scQT (fun vs H Q E h => ?_) (fun cdv A outer sh H vs Q E hr h => ?_)
  · obtain ⟨a, t, rfl, _⟩ := h
    rfl
  · obtain ⟨a, t, rfl, ⟨dx, v, ha⟩, q⟩ := h
    exact ⟨_, pss_one (ps_ret (pe_fld (pv 0) rfl)), .ref a, rfl, a, CQ, dx, _, _, rfl, ha, T.cQ, T.nX, rfl, q⟩
/-- == of a question with a question or a text -/
def spQE (CQ : Addr) : Sp := fun vs H Q _ => ∃ a t v, vs = [.ref a, v] ∧ QAt CQ H a t ∧ ((∃ b u, v = .ref b ∧ QAt CQ H b u ∧ Q (.bl (decide (tt t = tt u))) H) ∨ (∃ z, v = .str z ∧ Q (.bl false) H))
theorem scQE : FnScope ["self", "other"] ["self", "other"] (defScope (sQu 3)) := ⟨rfl, rfl, rfl, by decide +kernel, rfl, by decide +kernel, by decide +kernel⟩
theorem ok_quE {f : Addr} {fd : FuncData} (F : Fun K "__eq__" "Question.__eq__" (sQu 3) f fd) (T : TU K CQ) (zi : mg "isinstance" = none) (gQ : mg "Question" = some (.ref CQ)) : FnOk P w K mg base CX0 1 f fd ["self", "other"] (spQE CQ) := by
  refine F.ok scQE (fun vs H Q E h => ?_) (fun cdv A outer sh H vs Q E hr h => ?_)
  · obtain ⟨a, t, v, rfl, _⟩ := h
    rfl
  · obtain ⟨a, t, v, rfl, ⟨dx, v1, ha⟩, q⟩ := h
    refine ⟨_, pss_one (ps_ret (pe_and (pe_callB call_isi (by rfl) zi b_isi (pa_cons (pv 1) (pa_cons (pe_glob rfl gQ (v := .ref CQ) rfl) pa_nil))) (pe_one (pe_cmpR op_eq (pe_fld (pv 0) rfl) (pe_fld (pv 1) rfl) (nomark _))))), ?_⟩
    rcases q with ⟨b, u, rfl, ⟨dy, v2, hb⟩, q⟩ | ⟨z, rfl, q⟩
    · refine ⟨.ref b, rfl, .ref b, .ref CQ, .ref CQ, .ref CQ, true, rfl, .own CQ, .base (.ins hb T.cQ T.tC.cC T.tC.hn T.tC.ht T.tC.hm), kit_self, true, rfl, iteT ?_⟩
      refine ⟨.ref a, rfl, a, CQ, dx, _, _, rfl, ha, T.cQ, T.nX, rfl, .ref b, rfl, b, CQ, dy, _, _, rfl, hb, T.cQ, T.nX, rfl, rfl, ?_⟩
      rw [str_ne]
      exact q
    · exact ⟨.str z, rfl, .str z, .ref CQ, .type "str", .ref CQ, false, rfl, .own CQ, .base (.str z), T.kS, false, rfl, iteF q⟩
end
end AQ

set_option Elab.async false
set_option linter.all false
set_option maxRecDepth 100000
set_option maxHeartbeats 4000000
/-! Where a question's text goes wrong, sign by sign; the readers stop at the same place. -/
namespace AQ
open PySem PySem.Spec PyProof.Rows L2 L2.FK FS TX
/-- the word at the front -/
def tw (s : S) : S := s.takeWhile inW
def ws (s : S) : Str := ⟨(tw s).toArray⟩
/-- 1 a word, 2 a road, 0 neither -/
def kd (z : Str) : Nat := if isW z then 1 else if ROADS.contains z then 2 else 0
/-- one step of the scanner; wanted: 0 a part, 1 an open sign, 2 a sign -/
def stp (c : Nat) (r : S) (k w : Nat) : Option (S × Nat × Nat) :=
  if c = 32 then some (r, k, w)
  else if c = 40 ∧ w ≠ 2 ∧ k < 8 then some (r, k + 1, 0)
  else if w = 0 ∧ kd (ws (c :: r)) ≠ 0 then some ((c :: r).drop (tw (c :: r)).length, k, if kd (ws (c :: r)) = 1 then 2 else 1)
  else if w = 2 ∧ (c = 38 ∨ c = 124 ∨ c = 45) then some (r, k, 0)
  else if w = 2 ∧ c = 41 ∧ 0 < k then some (r, k - 1, 2)
  else none
inductive Sc : S → Nat → Nat → Option S → Prop
  | done : Sc [] 0 2 none
  | end_ {k w} : ¬ (w = 2 ∧ k = 0) → Sc [] k w (some [])
  | stop {c r k w} : stp c r k w = none → Sc (c :: r) k w (some (c :: r))
  | step {c r k w s' k' w' o} : stp c r k w = some (s', k', w') → Sc s' k' w' o → Sc (c :: r) k w o
theorem Sc.det {s : S} {k w : Nat} {o : Option S} (h : Sc s k w o) : ∀ {o'}, Sc s k w o' → o = o' := by
  induction h with
  | done => intro o' h'; cases h' with
    | done => rfl
    | end_ n => exact absurd ⟨rfl, rfl⟩ n
  | end_ n => intro o' h'; cases h' with
    | done => exact absurd ⟨rfl, rfl⟩ n
    | end_ n => rfl
  | stop e => intro o' h'; cases h' with
    | stop e' => rfl
    | step e' h' => rw [e] at e'; cases e'
  | step e h ih => intro o' h'; cases h' with
    | stop e' => rw [e] at e'; cases e'
    | step e' h' => rw [e] at e'; cases e'; exact ih h'
theorem Sc.skip {s : S} {k w : Nat} {o : Option S} (h : Sc (skip s) k w o) : Sc s k w o := by
  induction s with
  | nil => exact h
  | cons c r ih =>
    by_cases e : c = 32
    · subst e
      refine .step (s' := r) (k' := k) (w' := w) (by unfold stp; rw [if_pos rfl]) (ih ?_)
      have e : AQ.skip (32 :: r) = AQ.skip r := by
        show List.dropWhile _ _ = _
        rw [List.dropWhile_cons, if_pos (by decide)]
        rfl
      rw [e] at h
      exact h
    · rw [skip_ne e] at h
      exact h
theorem kd_nil : kd "" = 0 := by decide +kernel
theorem drop_tw (s : S) : s.drop (tw s).length = s.dropWhile inW := by
  unfold tw
  induction s with
  | nil => rfl
  | cons c r ih =>
    rw [List.takeWhile_cons, List.dropWhile_cons]
    cases h : inW c with
    | true => rw [if_pos rfl, if_pos rfl]; exact ih
    | false => rw [if_neg (by simp), if_neg (by simp)]; rfl
/-- the first token -/
theorem tok_w {c : Nat} {r : S} (h : inW c = true) : tok (c :: r) = ws (c :: r) ∧ wl (c :: r) = (tw (c :: r)).length ∧ 1 ≤ wl (c :: r) := by
  have e : wl (c :: r) = (tw (c :: r)).length := by
    unfold wl tw
    rw [List.takeWhile_cons, h, if_pos rfl, List.length_cons]
    omega
  refine ⟨?_, e, by unfold wl; omega⟩
  unfold tok ws
  rw [e]
  unfold tw
  have : ∀ s : S, s.take (s.takeWhile inW).length = s.takeWhile inW := fun s => by
    induction s with
    | nil => rfl
    | cons c r ih =>
      rw [List.takeWhile_cons]
      cases h : inW c with
      | true => rw [if_pos rfl, List.length_cons, List.take_succ_cons, ih]
      | false => rw [if_neg (by simp)]; rfl
  rw [this]
theorem ws_sign {c : Nat} {r : S} (h : inW c = false) : ws (c :: r) = "" := by
  unfold ws tw
  rw [List.takeWhile_cons, h, if_neg (by simp)]
  rfl
theorem tok_hd (c : Nat) (r : S) : ∃ l, cs (tok (c :: r)) = c :: l := by
  obtain ⟨n, hn⟩ : ∃ n, wl (c :: r) = n + 1 := ⟨wl (c :: r) - 1, by unfold wl; omega⟩
  refine ⟨r.take n, ?_⟩
  unfold tok
  rw [hn, List.take_succ_cons]
theorem tok_is {s : S} {x : Nat} {z : Str} (hz : cs z = [x]) (h : tok s = z) (hx : inW x = false) : ∃ r, s = x :: r ∧ adv s = skip r := by
  cases s with
  | nil => rw [tok_nil] at h; rw [← h] at hz; exact absurd hz (by rw [c0]; exact fun e => nomatch e)
  | cons c r =>
    obtain ⟨l, e⟩ := tok_hd c r
    rw [h, hz] at e
    cases e
    exact ⟨r, rfl, adv_sign hx r⟩
theorem tok_ln {s : S} (h : s ≠ []) : 1 ≤ (tok s).length ∧ (tok s).length + (adv s).length ≤ s.length := by
  have e : (tok s).length = (s.take (wl s)).length := by rw [← len_cps]; rfl
  have hw : 1 ≤ wl s := by unfold wl; omega
  have hs : 1 ≤ s.length := List.length_pos_iff.mpr h
  rw [e, List.length_take]
  refine ⟨by omega, ?_⟩
  have := skip_le (s.drop (wl s))
  rw [List.length_drop] at this
  unfold adv
  omega
theorem tok0 {s : S} : tok s = "" ↔ s = [] := by
  constructor
  · intro h
    cases s with
    | nil => rfl
    | cons c r =>
      obtain ⟨l, e⟩ := tok_hd c r
      rw [h, c0] at e
      cases e
  · rintro rfl
    exact tok_nil
theorem skip_cons {s : S} (h : skip s = s) {c : Nat} {r : S} (e : s = c :: r) : c ≠ 32 := by
  rintro rfl
  subst e
  have : AQ.skip (32 :: r) = AQ.skip r := by
    show List.dropWhile _ _ = _
    rw [List.dropWhile_cons, if_pos (by decide)]
    rfl
  rw [this] at h
  have := skip_le r
  rw [h, List.length_cons] at this
  omega
theorem roads_nw : ∀ z ∈ ROADS, isW z = false := by decide +kernel
theorem kd_road {z : Str} (h : ROADS.contains z = true) : kd z = 2 := by
  unfold kd
  rw [roads_nw z (by simpa using h), if_neg (by simp), if_pos h]
theorem kd_word {z : Str} (h : isW z = true) : kd z = 1 := by
  unfold kd
  rw [if_pos h]
theorem kd_no {z : Str} (h : ROADS.contains z = false) (h2 : isW z = false) : kd z = 0 := by
  unfold kd
  rw [h2, if_neg (by simp), h, if_neg (by simp)]
theorem isW_nil : isW "" = false := by decide +kernel
theorem in_ne {z : Str} (h : ROADS.contains z = true ∨ isW z = true) : z ≠ "" := by
  rintro rfl
  rcases h with h | h
  · exact absurd h (by decide +kernel)
  · exact absurd h (by decide +kernel)
theorem split_sign : ∀ c : Nat, inW c = false → isW ⟨#[c]⟩ = true → False := by
  intro c hc h
  unfold isW isFull at h
  have hW : WORDS.contains (⟨#[c]⟩ : Str) = false := by
    cases e : WORDS.contains (⟨#[c]⟩ : Str) with
    | false => rfl
    | true =>
      have : ∀ z ∈ WORDS, z.length ≠ 1 := by decide +kernel
      exact absurd rfl (this ⟨#[c]⟩ (by simpa using e))
  rw [hW, Bool.false_or, Bool.and_eq_true, decide_eq_true_eq] at h
  have hn : ∀ p ∈ Txt.split (⟨#[c]⟩ : Str) ".", 1 ≤ p.length := fun p hp => by
    have := List.all_eq_true.mp h.2 p hp
    unfold isName at this
    simp only [Bool.and_eq_true, decide_eq_true_eq] at this
    exact this.1.1.1.1.1
  have hw := PyProof.Rows.split_weight (⟨#[c]⟩ : Str) "." (by decide +kernel)
  generalize Txt.split (⟨#[c]⟩ : Str) "." = L at h hn hw
  obtain ⟨h2, _⟩ := h
  match L, h2 with
  | [a, b], _ =>
    have ha := hn a (by simp)
    have hb := hn b (by simp)
    have e1 : (⟨#[c]⟩ : Str).length = 1 := rfl
    simp only [List.map_cons, List.map_nil, List.sum_cons, List.sum_nil] at hw
    have e2 : (".": Str).length = 1 := by decide +kernel
    omega
theorem word_front {s : S} (h : ROADS.contains (tok s) = true ∨ isW (tok s) = true) : ∃ c r, s = c :: r ∧ inW c = true := by
  cases s with
  | nil => exact absurd tok_nil (in_ne h)
  | cons c r =>
    refine ⟨c, r, rfl, ?_⟩
    cases e : inW c with
    | true => rfl
    | false =>
      rw [tok_sign e] at h
      exfalso
      rcases h with h | h
      · have : ∀ z ∈ ROADS, z.length ≠ 1 := by decide +kernel
        exact absurd rfl (this ⟨#[c]⟩ (by simpa using h))
      · exact split_sign c e h
/-- a word or a road is passed -/
theorem Sc.word {s : S} {k : Nat} {o : Option S} (hs : AQ.skip s = s) (h : ROADS.contains (tok s) = true ∨ isW (tok s) = true) (n : Sc (adv s) k (if kd (tok s) = 1 then 2 else 1) o) : Sc s k 0 o := by
  obtain ⟨c, r, rfl, hc⟩ := word_front h
  obtain ⟨e1, e2, e3⟩ := tok_w (r := r) hc
  have k0 : kd (ws (c :: r)) ≠ 0 := by
    rw [← e1]
    rcases h with h | h
    · rw [kd_road h]; decide
    · rw [kd_word h]; decide
  refine .step (s' := (c :: r).drop (tw (c :: r)).length) (k' := k) (w' := if kd (ws (c :: r)) = 1 then 2 else 1) ?_ (Sc.skip ?_)
  · unfold stp
    rw [if_neg (skip_cons hs rfl), if_neg (by rintro ⟨rfl, _⟩; exact absurd hc (by decide +kernel)), if_pos ⟨rfl, k0⟩]
  · rw [← e2, ← e1]
    exact n
theorem Sc.open_ {s : S} {k w : Nat} {o : Option S} (h : tok s = "(") (hw : w ≠ 2) (hk : k < 8) (n : Sc (adv s) (k + 1) 0 o) : Sc s k w o := by
  obtain ⟨r, rfl, e⟩ := tok_is c40 h (by decide +kernel)
  rw [e] at n
  exact .step (s' := r) (k' := k + 1) (w' := 0) (by unfold stp; rw [if_neg (by decide), if_pos ⟨rfl, hw, hk⟩]) n.skip
theorem Sc.close {s : S} {k : Nat} {o : Option S} (h : tok s = ")") (n : Sc (adv s) k 2 o) : Sc s (k + 1) 2 o := by
  obtain ⟨r, rfl, e⟩ := tok_is c41 h (by decide +kernel)
  rw [e] at n
  refine .step (s' := r) (k' := k) (w' := 2) ?_ n.skip
  unfold stp
  rw [if_neg (by decide), if_neg (by simp), if_neg (by simp), if_neg (by simp), if_pos ⟨rfl, rfl, Nat.succ_pos k⟩]
  rfl
theorem Sc.sign {s : S} {k : Nat} {o : Option S} (h : tok s = "&" ∨ LOOSE.contains (tok s) = true) (n : Sc (adv s) k 0 o) : Sc s k 2 o := by
  have h3 : tok s = "&" ∨ tok s = "|" ∨ tok s = "-" := by
    rcases h with h | h
    · exact .inl h
    · have : tok s ∈ LOOSE := by simpa using h
      rcases List.mem_cons.mp this with e | e
      · exact .inr (.inl e)
      · exact .inr (.inr (List.mem_singleton.mp e))
  have go : ∀ x : Nat, (x = 38 ∨ x = 124 ∨ x = 45) → (∃ r, s = x :: r ∧ adv s = AQ.skip r) → Sc s k 2 o := fun x hx ⟨r, e, e2⟩ => by
    subst e
    rw [e2] at n
    refine .step (s' := r) (k' := k) (w' := 0) ?_ n.skip
    unfold stp
    rw [if_neg (by omega), if_neg (by simp), if_neg (by simp), if_pos ⟨rfl, hx⟩]
  rcases h3 with h | h | h
  · exact go 38 (.inl rfl) (tok_is c38 h (by decide +kernel))
  · exact go 124 (.inr (.inl rfl)) (tok_is c124 h (by decide +kernel))
  · exact go 45 (.inr (.inr rfl)) (tok_is c45 h (by decide +kernel))
/-- nothing goes on behind a part -/
theorem Sc.halt {s : S} {k : Nat} (hs : AQ.skip s = s) (h1 : tok s ≠ "&") (h2 : LOOSE.contains (tok s) = false) (h3 : k = 0 ∨ tok s ≠ ")") (h4 : ¬ (k = 0 ∧ s = [])) : Sc s k 2 (some s) := by
  cases s with
  | nil => exact .end_ (fun ⟨_, e⟩ => h4 ⟨e, rfl⟩)
  | cons c r =>
    refine .stop ?_
    have nx : ∀ x z, cs z = [x] → inW x = false → tok (c :: r) ≠ z → c ≠ x := fun x z hz hx hn e => by
      subst e
      rw [tok_sign hx] at hn
      exact hn (str_cs (by rw [hz]))
    have n1 := nx 38 "&" c38 (by decide +kernel) h1
    have n2 := nx 124 "|" c124 (by decide +kernel) (fun e => by rw [e] at h2; exact absurd h2 (by decide +kernel))
    have n3 := nx 45 "-" c45 (by decide +kernel) (fun e => by rw [e] at h2; exact absurd h2 (by decide +kernel))
    have n4 : ¬ (c = 41 ∧ 0 < k) := by
      rintro ⟨e, hk⟩
      rcases h3 with h3 | h3
      · omega
      · exact nx 41 ")" c41 (by decide +kernel) h3 e
    unfold stp
    rw [if_neg (skip_cons hs rfl), if_neg (by simp), if_neg (by simp), if_neg (by rintro ⟨_, h | h | h⟩ <;> contradiction), if_neg (fun h => n4 h.2)]
theorem Sc.noPart {s : S} {k w : Nat} (hs : AQ.skip s = s) (hw : w ≠ 2) (h0 : w = 0 → ROADS.contains (tok s) = false ∧ isW (tok s) = false) (h : tok s ≠ "(" ∨ k = 8) : Sc s k w (some s) := by
  cases s with
  | nil => exact .end_ (fun ⟨e, _⟩ => hw e)
  | cons c r =>
    refine .stop ?_
    unfold stp
    rw [if_neg (skip_cons hs rfl), if_neg ?a, if_neg ?b, if_neg (fun e => hw e.1), if_neg (fun e => hw e.1)]
    case a =>
      rintro ⟨rfl, _, hk⟩
      rcases h with h | h
      · exact h (by rw [tok_sign (by decide +kernel), e40])
      · omega
    case b =>
      rintro ⟨e, n⟩
      obtain ⟨a, b⟩ := h0 e
      cases hc : inW c with
      | true =>
        rw [← (tok_w (r := r) hc).1] at n
        exact n (kd_no a b)
      | false =>
        rw [ws_sign hc] at n
        exact n kd_nil
/-! ### the readers stop where the scanner does -/
def Rl (n : Nat) (w : Nat) (x : Nat) (s : S) : Res → Prop
  | .er e => Sc s (8 - n) w (some e)
  | .ok t s' => (∀ o, Sc s' (8 - n) 2 o → Sc s (8 - n) w o) ∧ skip s' = s' ∧ s'.length < s.length ∧ sg t ∧ 2 * dep t + s'.length + x ≤ s.length ∧ (tt t).length + 7 * s'.length ≤ 7 * s.length
/-- behind a whole part -/
def Bh (n : Nat) (s : S) (A B : Nat) (w : Nat) (l : Bool) : Res → Prop
  | .er e => Sc s (8 - n) w (some e)
  | .ok t s' => (∀ o, Sc s' (8 - n) 2 o → Sc s (8 - n) w o) ∧ skip s' = s' ∧ s'.length ≤ s.length ∧ sg t ∧ 2 * dep t + s'.length ≤ A ∧ (tt t).length + 7 * s'.length ≤ B ∧ tok s' ≠ "&" ∧ (l = true → LOOSE.contains (tok s') = false)
def LoS (N : Nat) : Prop := ∀ s, s.length < N → skip s = s → ∀ n, n ≤ 8 → ∃ r, Lo n s r ∧ Bh n s s.length (7 * s.length) 0 true r ∧ (∀ t s', r = .ok t s' → s'.length < s.length)
theorem adv_lt {s : S} (h : s ≠ []) : (adv s).length < s.length ∧ skip (adv s) = adv s := by
  have := tok_ln h
  exact ⟨by omega, skip_skip _⟩
theorem tok_nn {s : S} {z : Str} (h : tok s = z) (hz : z ≠ "") : s ≠ [] := by
  rintro rfl
  rw [tok_nil] at h
  exact hz h.symm
theorem tt_par (b : Bool) (t : Tr) : (par b (tt t)).length ≤ (tt t).length + 2 := (par_len b (tt t)).1
theorem ins_ex {N : Nat} (L : LoS N) (s : S) (hN : s.length ≤ N) (hs : skip s = s) (n : Nat) (hn : n ≤ 8) (w : Nat) (hw : w ≠ 2) (h0 : w = 0 → ROADS.contains (tok s) = false ∧ isW (tok s) = false) : ∃ r, Ins n s r ∧ Rl n w 2 s r := by
  by_cases h : tok s ≠ "(" ∨ n = 0
  · exact ⟨.er s, .no h, Sc.noPart hs hw h0 (by rcases h with h | h; exact .inl h; exact .inr (by omega))⟩
  · have h1 : tok s = "(" := Decidable.byContradiction fun e => h (.inl e)
    obtain ⟨m, rfl⟩ : ∃ m, n = m + 1 := ⟨n - 1, by have : n ≠ 0 := fun e => h (.inr e); omega⟩
    have ne : s ≠ [] := tok_nn h1 (by decide +kernel)
    obtain ⟨la, sa⟩ := adv_lt ne
    have ek : 8 - m = (8 - (m + 1)) + 1 := by omega
    obtain ⟨r, hr, hb, hl⟩ := L (adv s) (by omega) sa m (by omega)
    cases r with
    | er e =>
      have hb : Sc (adv s) (8 - m) 0 (some e) := hb
      rw [ek] at hb
      exact ⟨.er e, .erL h1 hr, Sc.open_ h1 hw (by omega) hb⟩
    | ok t s' =>
      obtain ⟨b1, b2, b3, b4, b5, b6, b7, b8⟩ := hb
      rw [ek] at b1
      by_cases h2 : tok s' = ")"
      · have ne' : s' ≠ [] := tok_nn h2 (by decide +kernel)
        obtain ⟨la', sa'⟩ := adv_lt ne'
        exact ⟨.ok t (adv s'), .ok h1 hr h2, fun o ho => Sc.open_ h1 hw (by omega) (b1 o (Sc.close h2 ho)), sa', by omega, b4, by omega, by omega⟩
      · exact ⟨.er s', .erR h1 hr h2, Sc.open_ h1 hw (by omega) (b1 _ (Sc.halt b2 b7 (b8 rfl) (.inr h2) (by omega)))⟩
theorem sg_ex {N : Nat} (L : LoS N) (s : S) (hN : s.length ≤ N) (hs : skip s = s) (n : Nat) (hn : n ≤ 8) : ∃ r, Sg n s r ∧ Rl n 0 0 s r := by
  cases h1 : ROADS.contains (tok s) with
  | true =>
    have ne : s ≠ [] := fun e => in_ne (.inl h1) (tok0.mpr e)
    obtain ⟨la, sa⟩ := adv_lt ne
    obtain ⟨tl1, tl2⟩ := tok_ln ne
    have k2 : (if kd (tok s) = 1 then 2 else 1) = 1 := by rw [kd_road h1]; rfl
    obtain ⟨r, hr, hb⟩ := ins_ex L (adv s) (by omega) sa n hn 1 (by decide) (fun e => nomatch e)
    cases r with
    | er e => exact ⟨.er e, .roadE h1 hr, Sc.word hs (.inl h1) (by rw [k2]; exact hb)⟩
    | ok t s' =>
      obtain ⟨b1, b2, b3, b4, b5, b6⟩ := hb
      refine ⟨.ok (.road (tok s) t) s', .road h1 hr, fun o ho => Sc.word hs (.inl h1) (by rw [k2]; exact b1 o ho), b2, by omega, b4, by show 2 * (dep t + 1) + s'.length + 0 ≤ s.length; omega, ?_⟩
      show (tok s ++ "(" ++ tt t ++ ")").length + _ ≤ _
      rw [s_len, s_len, s_len, show ("(" : Str).length = 1 by decide +kernel, show (")" : Str).length = 1 by decide +kernel]
      omega
  | false =>
    cases h2 : isW (tok s) with
    | true =>
      have ne : s ≠ [] := fun e => in_ne (.inr h2) (tok0.mpr e)
      obtain ⟨la, sa⟩ := adv_lt ne
      obtain ⟨tl1, tl2⟩ := tok_ln ne
      have k1 : (if kd (tok s) = 1 then 2 else 1) = 2 := by rw [kd_word h2]; rfl
      exact ⟨.ok (.word (tok s)) (adv s), .word h1 h2, fun o ho => Sc.word hs (.inr h2) (by rw [k1]; exact ho), sa, la, True.intro, by show 2 * 0 + (adv s).length + 0 ≤ s.length; omega, by show (tok s).length + _ ≤ _; omega⟩
    | false =>
      obtain ⟨r, hr, hb⟩ := ins_ex L s hN hs n hn 0 (by decide) (fun _ => ⟨h1, h2⟩)
      refine ⟨r, .ins h1 h2 hr, ?_⟩
      cases r with
      | er e => exact hb
      | ok t s' =>
        obtain ⟨b1, b2, b3, b4, b5, b6⟩ := hb
        exact ⟨b1, b2, b3, b4, by omega, b6⟩
theorem Bh.lift {n : Nat} {s s1 : S} {A B w : Nat} {l : Bool} {r : Res} (h : Bh n s1 A B 2 l r) (f : ∀ o, Sc s1 (8 - n) 2 o → Sc s (8 - n) w o) (hl : s1.length ≤ s.length) : Bh n s A B w l r := by
  cases r with
  | er e => exact f _ h
  | ok t s' =>
    obtain ⟨b1, b2, b3, b⟩ := h
    exact ⟨fun o ho => f o (b1 o ho), b2, by omega, b⟩
theorem tl_ex {N : Nat} (L : LoS N) (n : Nat) (hn : n ≤ 8) : ∀ (m : Nat) (s : S), s.length ≤ m → s.length ≤ N → skip s = s → ∀ (t : Tr) (A B : Nat), sg t → 2 * dep t + s.length ≤ A → s.length + 1 ≤ A → (tt t).length + 7 * s.length ≤ B → ∃ k r, TL n k t s r ∧ Bh n s A B 2 false r
  | m, s, hm, hN, hs, t, A, B, hsg, hA, hA1, hB => by
    by_cases h : tok s = "&"
    · have ne : s ≠ [] := tok_nn h (by decide +kernel)
      obtain ⟨la, sa⟩ := adv_lt ne
      obtain ⟨r, hr, hb⟩ := sg_ex L (adv s) (by omega) sa n hn
      cases r with
      | er e => exact ⟨0, .er e, .er h hr, Sc.sign (.inl h) hb⟩
      | ok b s1 =>
        obtain ⟨b1, b2, b3, b4, b5, b6⟩ := hb
        match m, hm with
        | 0, hm => exact absurd (List.length_pos_iff.mpr ne) (by omega)
        | m + 1, hm =>
          have e : tt (.bin "&" t b) = par (isL t) (tt t) ++ " & " ++ par (isL b || isA b) (tt b) := by
            show (if ("&" : Str) = "&" then _ else _) = _
            rw [if_pos rfl]
          have p1 := tt_par (isL t) t
          have p2 := tt_par (isL b || isA b) b
          obtain ⟨k, r, hk, hb2⟩ := tl_ex L n hn m s1 (by omega) (by omega) b2 (.bin "&" t b) A B ⟨.inl rfl, hsg, b4⟩ (by show 2 * (max (dep t) (dep b) + 1) + s1.length ≤ A; omega) (by omega) (by rw [e, s_len, s_len, show (" & " : Str).length = 3 by decide +kernel]; omega)
          exact ⟨k + 1, r, .go h hr hk, hb2.lift (fun o ho => Sc.sign (.inl h) (b1 o ho)) (by omega)⟩
    · exact ⟨0, .ok t s, .stop h, fun o ho => ho, hs, Nat.le_refl _, hsg, hA, hB, h, fun e => nomatch e⟩
theorem ti_ex {N : Nat} (L : LoS N) (n : Nat) (hn : n ≤ 8) (s : S) (hN : s.length ≤ N) (hs : skip s = s) : ∃ r, Ti n s r ∧ Bh n s s.length (7 * s.length) 0 false r ∧ (∀ t s', r = .ok t s' → s'.length < s.length) := by
  obtain ⟨r, hr, hb⟩ := sg_ex L s hN hs n hn
  cases r with
  | er e => exact ⟨.er e, .er hr, hb, fun t s' e => nomatch e⟩
  | ok b s1 =>
    obtain ⟨b1, b2, b3, b4, b5, b6⟩ := hb
    obtain ⟨k, r, hk, hb2⟩ := tl_ex L n hn s1.length s1 (Nat.le_refl _) (by omega) b2 b s.length (7 * s.length) b4 b5 (by omega) b6
    refine ⟨r, .go hr hk, hb2.lift b1 (by omega), fun t s' e => ?_⟩
    subst e
    have := hb2.2.2.1
    omega
theorem ll_ex {N : Nat} (L : LoS N) (n : Nat) (hn : n ≤ 8) : ∀ (m : Nat) (s : S), s.length ≤ m → s.length ≤ N → skip s = s → tok s ≠ "&" → ∀ (t : Tr) (A B : Nat), sg t → 2 * dep t + s.length ≤ A → s.length + 1 ≤ A → (tt t).length + 7 * s.length ≤ B → ∃ k r, LL n k t s r ∧ Bh n s A B 2 true r
  | m, s, hm, hN, hs, hna, t, A, B, hsg, hA, hA1, hB => by
    cases h : LOOSE.contains (tok s) with
    | true =>
      have ne : s ≠ [] := by
        rintro rfl
        rw [tok_nil] at h
        exact absurd h (by decide +kernel)
      obtain ⟨la, sa⟩ := adv_lt ne
      obtain ⟨r, hr, hb, hl⟩ := ti_ex L n hn (adv s) (by omega) sa
      cases r with
      | er e => exact ⟨0, .er e, .er h hr, Sc.sign (.inr h) hb⟩
      | ok b s1 =>
        obtain ⟨b1, b2, b3, b4, b5, b6, b7, _⟩ := hb
        have l1 := hl b s1 rfl
        match m, hm with
        | 0, hm => exact absurd (List.length_pos_iff.mpr ne) (by omega)
        | m + 1, hm =>
          have hg : tok s = "|" ∨ tok s = "-" := by
            have : tok s ∈ LOOSE := by simpa using h
            rcases List.mem_cons.mp this with e | e
            · exact .inl e
            · exact .inr (List.mem_singleton.mp e)
          have gl : (tok s).length = 1 := by rcases hg with e | e <;> rw [e] <;> decide +kernel
          have e : tt (.bin (tok s) t b) = tt t ++ ((" " : Str) ++ tok s ++ " ") ++ par (isL b) (tt b) := by
            show (if tok s = "&" then _ else _) = _
            rw [if_neg hna]
          have p2 := tt_par (isL b) b
          obtain ⟨k, r, hk, hb2⟩ := ll_ex L n hn m s1 (by omega) (by omega) b2 b7 (.bin (tok s) t b) A B ⟨.inr hg, hsg, b4⟩ (by show 2 * (max (dep t) (dep b) + 1) + s1.length ≤ A; omega) (by omega) (by rw [e, s_len, s_len, s_len, s_len, gl, show (" " : Str).length = 1 by decide +kernel]; omega)
          exact ⟨k + 1, r, .go h hr hk, hb2.lift (fun o ho => Sc.sign (.inr h) (b1 o ho)) (by omega)⟩
    | false => exact ⟨0, .ok t s, .stop h, fun o ho => ho, hs, Nat.le_refl _, hsg, hA, hB, hna, fun _ => h⟩
theorem lo_ex : ∀ N, LoS N
  | 0 => fun s h => absurd h (Nat.not_lt_zero _)
  | N + 1 => fun s h hs n hn => by
    have L := lo_ex N
    obtain ⟨r, hr, hb, hl⟩ := ti_ex L n hn s (by omega) hs
    cases r with
    | er e => exact ⟨.er e, .er hr, hb, fun t s' e => nomatch e⟩
    | ok b s1 =>
      obtain ⟨b1, b2, b3, b4, b5, b6, b7, _⟩ := hb
      have l1 := hl b s1 rfl
      obtain ⟨k, r, hk, hb2⟩ := ll_ex L n hn s1.length s1 (Nat.le_refl _) (by omega) b2 b7 b s.length (7 * s.length) b4 b5 (by omega) b6
      refine ⟨r, .go hr hk, hb2.lift b1 (by omega), fun t s' e => ?_⟩
      subst e
      have := hb2.2.2.1
      omega
/-- each text: what the readers say of it, and where the scanner stops -/
theorem place_all (c : S) : ∃ r, Lo 8 (skip c) r ∧ (∀ t s', r = .ok t s' → tok s' = "" → Sc c 0 0 none ∧ sg t ∧ 2 * dep t ≤ c.length ∧ (tt t).length ≤ 7 * c.length) ∧ (∀ t s', r = .ok t s' → tok s' ≠ "" → Sc c 0 0 (some s')) ∧ (∀ e, r = .er e → Sc c 0 0 (some e)) := by
  obtain ⟨r, hr, hb, _⟩ := lo_ex ((skip c).length + 1) (skip c) (Nat.lt_succ_self _) (skip_skip c) 8 (Nat.le_refl 8)
  have sl := skip_le c
  refine ⟨r, hr, fun t s' e ht => ?_, fun t s' e ht => ?_, fun e he => ?_⟩
  · subst e
    obtain ⟨b1, b2, b3, b4, b5, b6, b7, b8⟩ := hb
    have e0 := tok0.mp ht
    subst e0
    exact ⟨(b1 none .done).skip, b4, by omega, by omega⟩
  · subst e
    obtain ⟨b1, b2, b3, b4, b5, b6, b7, b8⟩ := hb
    exact (b1 _ (Sc.halt b2 b7 (b8 rfl) (.inl rfl) (fun z => ht (tok0.mpr z.2)))).skip
  · subst he
    exact (show Sc (skip c) 0 0 (some e) from hb).skip
theorem Sc.ex (c : S) : ∃ o, Sc c 0 0 o := by
  obtain ⟨r, _, h1, h2, h3⟩ := place_all c
  cases r with
  | er e => exact ⟨_, h3 e rfl⟩
  | ok t s' =>
    by_cases h : tok s' = ""
    · exact ⟨_, (h1 t s' rfl h).1⟩
    · exact ⟨_, h2 t s' rfl h⟩
end AQ

set_option Elab.async false
set_option linter.all false
set_option maxRecDepth 100000
set_option maxHeartbeats 4000000
namespace TopL
open PySem PySem.Spec PyProof.Rows L2
def top (i : Nat) : Stmt := PySem.Challenge.pw_foldsame_k82_places_in_questions.main.body.getD i (.Pass ⟨0, 0, 0, 0⟩)
abbrev sLeft : Stmt := top 83
abbrev sDraw : Stmt := top 84
end TopL

set_option Elab.async false
set_option linter.all false
set_option maxRecDepth 100000
set_option maxHeartbeats 4000000
/-! What later laws draw with. -/
namespace LD
open PySem PySem.Spec PyProof.Rows L2 FS
/-- the numbers that are left -/
def LAt (p : Addr) (H : Hp) : Prop := ∃ ms : List Int, H p = some (.lst (ms.map V.int)) ∧ 2 ≤ ms.length ∧ ms.length ≤ 100
theorem LAt.mono {p : Addr} {H H' : Hp} (h : LAt p H) (s : Same H H') : LAt p H' := by
  obtain ⟨ms, e, l⟩ := h
  exact ⟨ms, s _ _ e, l⟩
section
variable {P : Program} {w : World} {K : PySem.W.Frag} {mg : Str → Option Value} {base : Heap}
/-! ### _law_left -/
def spLeft (K : PySem.W.Frag) : Sp := fun vs H Q _ => ∃ (a : Addr) (ns : List Int), vs = [.ref a] ∧ SqL K H a (ns.map V.int) ∧ ns.length ≤ 63 ∧
  ∀ H' p, Same H H' → H p = none → LAt p H' → Q (.ref p) H'
theorem scLf : FnScope ["_law_script", "_law_left_here"] ["_law_script"] (defScope TopL.sLeft) := ⟨rfl, rfl, rfl, by decide +kernel, rfl, by decide +kernel, by decide +kernel⟩
theorem ok_left {f : Addr} {fd : FuncData} {k : Nat} (F : Fun K "_law_left" "_law_left" TopL.sLeft f fd) (zl : mg "list" = none) (zn : mg "len" = none) : FnOk P w K mg base CX0 (k + 1) f fd ["_law_script"] (spLeft K) := by
  refine F.ok scLf (fun vs H Q E h => ?_) (fun cdv A outer s H vs Q E hr h => ?_)
  · obtain ⟨a, ns, rfl, _⟩ := h
    rfl
  · obtain ⟨a, ns, rfl, hS, hlen, q⟩ := h
    refine ⟨_, pss_cons (ps_set (i := 1) scLf.nd rfl (.inl rfl) (pe_op op_catS (pe_lstS (pa_cons pe_int pa_nil)) (pe_callTy call_listS (by rfl) zl (by decide +kernel) (pa_cons (pe_slice sl_listS (pv 0) po_none (po_some pe_int)) pa_nil))))
      (pss_cons (ps_if (pt_cmpR op_eq (pe_callB call_len_seq (by rfl) zn PySem.boot_len (pa_cons (pv 1) pa_nil)) pe_int (nomark _))
          (pss_one (ps_expr (pe_bm PySem.F.plainAttrs_list PySem.F.slot_list_append PySem.F.type_list_append mt_append (pv 1) (pa_cons pe_int pa_nil)))) pss_nil)
      (pss_one (ps_ret (pv 1)))), ?_⟩
    refine ⟨by simp, fun l1 H1 s1 n1 h1 => ?_⟩
    obtain ⟨ms, em, lm⟩ := cut_ints ns none (some 63)
    refine ⟨.ref a, rfl, 63, rfl, a, _, rfl, s1.seq hS, fun l2 H2 s2 n2 h2 => ?_⟩
    rw [em] at h2
    refine ⟨l2, _, rfl, .inl (SqL.of h2), fun l3 H3 s3 n3 h3 => ?_⟩
    refine ⟨l1, l3, _, _, rfl, rfl, s3 _ _ (s2 _ _ h1), h3, ?_, fun l4 H4 s4 n4 h4 => ?_⟩
    · simp only [List.length_map, List.length_singleton]
      omega
    have t4 : Same H H4 := s1.trans (s2.trans (s3.trans s4))
    have n0 : H l4 = none := (s1.trans (s2.trans s3)).free n4
    have h5 : H4 l4 = some (.lst ((0 :: ms).map V.int)) := h4
    refine ⟨.ref l4, rfl, l4, _, rfl, .inl (SqL.of h5), rfl, _, rfl, ?_⟩
    refine ite2 (fun hc => ?_) (fun hc => ?_)
    · refine ⟨.ref l4, rfl, .inl ⟨rfl, _, SqL.of h5⟩, l4, _, _, rfl, rfl, h5, small1000 (by rw [List.length_map, List.length_cons]; omega), ?_⟩
      refine ⟨.ref l4, rfl, q _ l4 ?_ n0 ⟨0 :: ms ++ [0], ?_, ?_, ?_⟩⟩
      · intro b o e
        rw [upd_ne (ne_of_none e n0)]
        exact t4 _ _ e
      · rw [upd_same, List.map_append]
        rfl
      · simp
      · simp
        omega
    · refine ⟨.ref l4, rfl, q _ l4 t4 n0 ⟨0 :: ms, h5, ?_, ?_⟩⟩
      · have h6 : ¬ (((0 :: ms).map V.int).length : Int) = 1 := fun e => hc (decide_eq_true (by rw [e]))
        rw [List.length_map, List.length_cons] at h6
        rw [List.length_cons]
        omega
      · rw [List.length_cons]
        omega
/-! ### _law_draw -/
def spDraw : Sp := fun vs H Q _ => ∃ (p : Addr) (m : Nat), vs = [.ref p, .int m] ∧ 0 < m ∧ m ≤ 1000 ∧ LAt p H ∧ ∀ H' (r : Nat), Off p H H' → LAt p H' → r < m → Q (.int r) H'
theorem scD : FnScope ["_law_left_here", "_law_most", "_law_place_here", "_law_cell"] ["_law_left_here", "_law_most"] (defScope TopL.sDraw) := ⟨rfl, rfl, rfl, by decide +kernel, rfl, by decide +kernel, by decide +kernel⟩
theorem toNm {x : Int} {m : Nat} (h : 0 ≤ x) (h2 : x < (m : Int)) : ∃ r : Nat, x = (r : Int) ∧ r < m := ⟨x.toNat, by omega, by omega⟩
theorem at_int {ms : List Int} {j : Nat} (h : j < ms.length) : (ms.map V.int)[j]? = some (V.int (ms[j]'h)) := by
  rw [List.getElem?_map, List.getElem?_eq_getElem h]
  rfl
theorem set_int (ms : List Int) (j : Nat) (z : Int) : (ms.map V.int).set j (.int z) = (ms.set j z).map V.int := by rw [List.map_set]
theorem ok_draw {f : Addr} {fd : FuncData} {k : Nat} (F : Fun K "_law_draw" "_law_draw" TopL.sDraw f fd) (zn : mg "len" = none) (zi : mg "int" = none) : FnOk P w K mg base CX0 (k + 1) f fd ["_law_left_here", "_law_most"] spDraw := by
  refine F.ok scD (fun vs H Q E h => ?_) (fun cdv A outer s H vs Q E hr h => ?_)
  · obtain ⟨a, m, rfl, _⟩ := h
    rfl
  · obtain ⟨p, m, rfl, hm, hm2, ⟨ms, hp, h2, h100⟩, q0⟩ := h
    have hmi : (0 : Int) < (m : Int) := by omega
    have hmn : (m : Int) ≠ 0 := by omega
    have q : ∀ H' (ms' : List Int) (r : Nat), Off p H H' → H' p = some (.lst (ms'.map V.int)) → ms'.length = ms.length → r < m → Q (.int r) H' := fun H' ms' r o e l hr => q0 H' r o ⟨ms', e, by omega, by omega⟩ hr
    refine ⟨_, pss_cons (ps_asg (pe_op op_add (pe_ix ix_list (pv 0) pe_int (fun _ _ => rfl)) pe_int) (pg_sub (pv 0) pe_int set_list (fun _ => rfl)))
      (pss_cons (ps_set (i := 2) scD.nd rfl (.inl rfl) (pe_op op_add pe_int (pe_op op_mod (pe_ix ix_list (pv 0) pe_int (fun _ _ => rfl)) (pe_op op_sub (pe_callB call_len_seq (by rfl) zn PySem.boot_len (pa_cons (pv 0) pa_nil)) pe_int))))
      (pss_cons (ps_set (i := 3) scD.nd rfl (.inl rfl) (pe_ix ix_list (pv 0) (pv 2) (fun _ _ => rfl)))
      (pss_cons (ps_if (pt_cmpR op_ge (pv 3) (pe_op op_pow pe_int pe_int) (nomark _))
          (pss_cons (ps_asg (pe_op op_fdiv (pv 3) (pv 1)) (pg_sub (pv 0) (pv 2) set_list (fun _ => rfl)))
            (pss_one (ps_ret (pe_op op_mod (pe_callTy call_int1 (by rfl) zi (by decide +kernel) (pa_cons (pv 3) pa_nil)) (pv 1))))) pss_nil)
      (pss_cons (ps_asg (pe_op op_mod (pe_callTy call_int1 (by rfl) zi (by decide +kernel) (pa_cons (pe_op op_add (pe_op op_add (pe_op op_mul (pv 3) pe_int) (pe_op op_mul (pe_ix ix_list (pv 0) pe_int (fun _ _ => rfl)) pe_int)) pe_int) pa_nil)) pe_int) (pg_sub (pv 0) (pv 2) set_list (fun _ => rfl)))
      (pss_one (ps_ret (pe_op op_mod (pe_op op_fdiv (pe_ix ix_list (pv 0) (pv 2) (fun _ _ => rfl)) pe_int) (pv 1)))))))), ?_⟩
    have l0 : 0 < ms.length := by omega
    refine ⟨.ref p, rfl, p, _, 0, _, rfl, rfl, SqL.of hp, atI_nat (j := 0) (at_int l0), _, _, rfl, rfl, ?_⟩
    refine ⟨.ref p, rfl, p, _, 0, 0, rfl, rfl, hp, ixN_of (j := 0) (by rw [List.length_map]; exact l0), ?_⟩
    have h1 : (upd H p (.lst ((ms.map V.int).set 0 (.int (ms[0] + 1))))) p = some (.lst ((ms.set 0 (ms[0] + 1)).map V.int)) := by rw [upd_same, set_int]
    have ol : (ms.set 0 (ms[0] + 1)).length = ms.length := List.length_set
    have o1 : Off p H (upd H p (.lst ((ms.map V.int).set 0 (.int (ms[0] + 1))))) := Off.put
    have l1 : 0 < (ms.set 0 (ms[0] + 1)).length := by omega
    refine ⟨.ref p, rfl, p, _, 0, _, rfl, rfl, SqL.of h1, atI_nat (j := 0) (at_int l1), .ref p, rfl, p, _, rfl, .inl (SqL.of h1), _, _, rfl, rfl, _, _, rfl, rfl, ?_, _, _, rfl, rfl, ?_⟩
    · show (0 : Int) < (((ms.set 0 (ms[0] + 1)).map V.int).length : Int) - 1
      rw [List.length_map]
      omega
    obtain ⟨j, ej, hj⟩ : ∃ j : Nat, 1 + ((ms.set 0 (ms[0] + 1))[0] % ((((ms.set 0 (ms[0] + 1)).map V.int).length : Int) - 1)) = (j : Int) ∧ j < (ms.set 0 (ms[0] + 1)).length := by
      have e1 := Int.emod_nonneg ((ms.set 0 (ms[0] + 1))[0]) (b := (((ms.set 0 (ms[0] + 1)).map V.int).length : Int) - 1) (by rw [List.length_map]; omega)
      have e2 := Int.emod_lt_of_pos ((ms.set 0 (ms[0] + 1))[0]) (b := (((ms.set 0 (ms[0] + 1)).map V.int).length : Int) - 1) (by rw [List.length_map]; omega)
      refine ⟨(1 + ((ms.set 0 (ms[0] + 1))[0] % ((((ms.set 0 (ms[0] + 1)).map V.int).length : Int) - 1))).toNat, by omega, ?_⟩
      have e3 : (((ms.set 0 (ms[0] + 1)).map V.int).length : Int) = ((ms.set 0 (ms[0] + 1)).length : Int) := by rw [List.length_map]
      omega
    have ea : atI ((ms.set 0 (ms[0] + 1)).map V.int) (1 + ((ms.set 0 (ms[0] + 1))[0] % ((((ms.set 0 (ms[0] + 1)).map V.int).length : Int) - 1))) = some (.int ((ms.set 0 (ms[0] + 1))[j])) := by rw [ej]; exact atI_nat (at_int hj)
    have ei : ixN ((ms.set 0 (ms[0] + 1)).map V.int).length (1 + ((ms.set 0 (ms[0] + 1))[0] % ((((ms.set 0 (ms[0] + 1)).map V.int).length : Int) - 1))) = some j := by rw [ej]; exact ixN_of (by rw [List.length_map]; exact hj)
    refine ⟨.ref p, rfl, _, rfl, p, _, _, _, rfl, rfl, SqL.of h1, ea, ?_⟩
    refine ⟨_, rfl, _, _, rfl, rfl, ⟨by decide, by decide, by decide⟩, _, _, rfl, rfl, _, rfl, ?_⟩
    refine ite2 (fun hc => ?_) (fun hc => ?_)
    · refine ⟨_, rfl, _, rfl, _, _, rfl, rfl, ⟨hmi, by omega⟩, ?_⟩
      refine ⟨.ref p, rfl, _, rfl, p, _, _, j, rfl, rfl, h1, ei, ?_⟩
      refine ⟨_, rfl, .inl ⟨_, rfl, _, rfl, _, _, rfl, rfl, hmi, ?_⟩⟩
      obtain ⟨r, er, hr9⟩ := toNm (Int.emod_nonneg ((ms.set 0 (ms[0] + 1))[j]) hmn) (Int.emod_lt_of_pos ((ms.set 0 (ms[0] + 1))[j]) hmi)
      have hq := q (upd (upd H p (.lst ((ms.map V.int).set 0 (.int (ms[0] + 1))))) p (.lst (((ms.set 0 (ms[0] + 1)).map V.int).set j (.int ((ms.set 0 (ms[0] + 1))[j] / (m : Int)))))) ((ms.set 0 (ms[0] + 1)).set j ((ms.set 0 (ms[0] + 1))[j] / (m : Int))) r (o1.trans Off.put) (by rw [upd_same, set_int]) (by rw [List.length_set, ol]) hr9
      rw [← er] at hq
      exact hq
    · refine ⟨_, rfl, _, _, rfl, rfl, .inr ⟨by decide, by decide⟩, .ref p, rfl, p, _, 0, _, rfl, rfl, SqL.of h1, atI_nat (j := 0) (at_int l1), _, _, rfl, rfl, .inr ⟨by decide, by decide⟩, _, _, rfl, rfl, _, _, rfl, rfl, .inl ⟨_, rfl, _, _, rfl, rfl, (show (0 : Int) < 2147483647 by decide), ?_⟩⟩
      refine ⟨.ref p, rfl, _, rfl, p, _, _, j, rfl, rfl, h1, ei, ?_⟩
      have h3 : (upd (upd H p (.lst ((ms.map V.int).set 0 (.int (ms[0] + 1))))) p (.lst (((ms.set 0 (ms[0] + 1)).map V.int).set j (.int (((ms.set 0 (ms[0] + 1))[j] * 48271 + (ms.set 0 (ms[0] + 1))[0] * 7919 + 11) % 2147483647))))) p
          = some (.lst (((ms.set 0 (ms[0] + 1)).set j (((ms.set 0 (ms[0] + 1))[j] * 48271 + (ms.set 0 (ms[0] + 1))[0] * 7919 + 11) % 2147483647)).map V.int)) := by rw [upd_same, set_int]
      have e3 : ((ms.set 0 (ms[0] + 1)).set j (((ms.set 0 (ms[0] + 1))[j] * 48271 + (ms.set 0 (ms[0] + 1))[0] * 7919 + 11) % 2147483647)).length = ms.length := by rw [List.length_set, ol]
      have ea2 : ∀ (l : List Int) (hl : l.length = ms.length), atI (l.map V.int) (1 + ((ms.set 0 (ms[0] + 1))[0] % ((((ms.set 0 (ms[0] + 1)).map V.int).length : Int) - 1))) = some (.int (l[j]'(by omega))) := fun l hl => by rw [ej]; exact atI_nat (at_int (by omega))
      refine ⟨.ref p, rfl, _, rfl, p, _, _, _, rfl, rfl, SqL.of h3, ea2 _ e3, _, _, rfl, rfl, ⟨by decide, by decide⟩, _, rfl, _, _, rfl, rfl, hmi, ?_⟩
      generalize hz : (((ms.set 0 (ms[0] + 1)).set j (((ms.set 0 (ms[0] + 1))[j] * 48271 + (ms.set 0 (ms[0] + 1))[0] * 7919 + 11) % 2147483647))[j]'(by omega)) = z
      obtain ⟨r, er, hr9⟩ := toNm (Int.emod_nonneg (z / 7) hmn) (Int.emod_lt_of_pos (z / 7) hmi)
      have hq := q _ _ r (o1.trans Off.put) h3 e3 hr9
      rw [← er] at hq
      exact hq
end
end LD

set_option Elab.async false
set_option linter.all false
set_option maxRecDepth 100000
set_option maxHeartbeats 4000000
/-! What the law draws: trees, their least texts, gaps. -/
namespace AQ
open PySem PySem.Spec PyProof.Rows L2 L2.FK FS TX
abbrev sLw (i : Nat) : Stmt := TX.top (83 + i)
def NMS : List Str := ["m.main", "n.p", "ab.f10", "m.all"]
def Sm : Tr → Prop
  | .word w => w.length ≤ 8
  | .road r t => r.length ≤ 8 ∧ Sm t
  | .bin _ a b => Sm a ∧ Sm b
def okW (w : Str) : Bool := decide (w.cps.toList ≠ []) && (w.cps.toList.all inW && (!ROADS.contains w && (isW w && decide (w.length ≤ 8))))
theorem okW_of {w : Str} (h : okW w = true) : Ok (.word w) ∧ Sm (.word w) := by
  unfold okW at h
  simp only [Bool.and_eq_true, decide_eq_true_eq, Bool.not_eq_true'] at h
  exact ⟨⟨h.1, h.2.1, h.2.2.1, h.2.2.2.1⟩, h.2.2.2.2⟩
theorem words_ok : ∀ x ∈ WORDS ++ NMS, okW x = true := by decide +kernel
theorem roads_ok : ∀ x ∈ ROADS, (decide (x.cps.toList ≠ []) && (x.cps.toList.all inW && (ROADS.contains x && decide (x.length ≤ 8)))) = true := by decide +kernel
theorem road_ok {r : Str} (h : r ∈ ROADS) {t : Tr} (o : Ok t) (m : Sm t) : Ok (.road r t) ∧ Sm (.road r t) := by
  have h := roads_ok r h
  simp only [Bool.and_eq_true, decide_eq_true_eq] at h
  exact ⟨⟨h.1, h.2.1, h.2.2.1, o⟩, h.2.2.2, m⟩
section
variable {P : Program} {w : World} {K : PySem.W.Frag} {mg : Str → Option Value} {base : Heap}
abbrev nmTr : List Str := ["_law_left_here", "_law_names", "_law_deep", "_law_way", "_law_words", "_law_roads", "_law_sign", "_law_first"]
def spTree (e : Nat) : Sp := fun vs H Q _ => ∃ (p na : Addr), vs = [.ref p, .ref na, .int e] ∧ LD.LAt p H ∧ H na = some (.lst (NMS.map V.str)) ∧ na ≠ p ∧ ∀ H' v t, Off p H H' → LD.LAt p H' → TrAt "of" H' v t → Ok t → Sm t → dep t ≤ e → Q v H'
theorem scTr : FnScope nmTr ["_law_left_here", "_law_names", "_law_deep"] (defScope (sLw 2)) := ⟨rfl, rfl, rfl, by decide +kernel, rfl, by decide +kernel, by decide +kernel⟩
theorem at_map {l : List Str} {r : Nat} (h : r < l.length) : atI (l.map V.str) ((r : Nat) : Int) = some (.str (l[r])) := atI_nat (by rw [List.getElem?_map, List.getElem?_eq_getElem h]; rfl)
theorem lat_tk {p : Addr} {H H' : Hp} (h : LD.LAt p H) (o : Off p H H') : Tk H H' := fun q xs e => o _ _ (fun z => by obtain ⟨ms, e2, _⟩ := h; rw [z, e2] at e; cases e) e
def spTreeP : Nat → Sp
  | 0 => fun _ _ _ _ => False
  | e + 1 => spTree e
theorem ok_treeF {f : Addr} {fd : FuncData} (F : Fun K "_law_tree" "_law_tree" (sLw 2) f fd) : FnOk P w K mg base CX0 1 f fd ["_law_left_here", "_law_names", "_law_deep"] (spTreeP 0) :=
  F.ok scTr (fun vs H Q E h => h.elim) (fun cdv A outer sh H vs Q E hr h => (h : False).elim)
theorem at_signs : ∀ r, r < 3 → ∃ c, ("&|-" : Str).cps.toList[r]? = some c ∧ ((⟨#[c]⟩ : Str) = "&" ∨ (⟨#[c]⟩ : Str) = "|" ∨ (⟨#[c]⟩ : Str) = "-") := by
  intro r hr
  match r, hr with
  | 0, _ => exact ⟨38, by decide +kernel, .inl (by decide +kernel)⟩
  | 1, _ => exact ⟨124, by decide +kernel, .inr (.inl (by decide +kernel))⟩
  | 2, _ => exact ⟨45, by decide +kernel, .inr (.inr (by decide +kernel))⟩
theorem ok_tree {f fD : Addr} {fd fdD : FuncData} {e k : Nat} (F : Fun K "_law_tree" "_law_tree" (sLw 2) f fd) (hk : 1 ≤ k) (zl : mg "len" = none) (zi : mg "int" = none)
    (GD : FnOk P w K mg base CX0 1 fD fdD ["_law_left_here", "_law_most"] LD.spDraw) (bD : Binds K fdD ["_law_left_here", "_law_most"] []) (gD : mg "_law_draw" = some (.ref fD)) (kD : PySem.W.keepIn K (.ref fD) = true)
    (GT : FnOk P w K mg base CX0 k f fd ["_law_left_here", "_law_names", "_law_deep"] (spTreeP e)) (bT : Binds K fd ["_law_left_here", "_law_names", "_law_deep"] []) (gT : mg "_law_tree" = some (.ref f)) (kT : PySem.W.keepIn K (.ref f) = true) :
    FnOk P w K mg base CX0 (k + 1) f fd ["_law_left_here", "_law_names", "_law_deep"] (spTree e) := by
  refine F.ok scTr (fun vs H Q E h => ?_) (fun cdv A outer sh H vs Q E hr h => ?_)
  · obtain ⟨p, na, rfl, _⟩ := h
    rfl
  · obtain ⟨p, na, rfl, lp, hna, ne, q⟩ := h
    have hr1 : Room 1 _ := hr.mono hk
    refine ⟨_, pss_cons (ps_set (i := 3) scTr.nd rfl (.inl rfl) (pe_call GD hr1 rfl gD kD bD .nil pass0 (pa_cons (pv 0) (pa_cons (pe_op op_add pe_int (pe_op op_mul pe_int (pe_callTy call_int1 (by rfl) zi b_int (pa_cons (pe_cmpR op_gt (pv 2) pe_int (nomark _)) pa_nil)))) pa_nil))))
      (pss_cons (ps_set (i := 4) scTr.nd rfl (.inl rfl) (pe_lstS (pa_cons pe_str (pa_cons pe_str (pa_cons pe_str (pa_cons pe_str (pa_cons pe_str (pa_cons pe_str pa_nil))))))))
      (pss_cons (ps_if (pt_cmpR op_eq (pv 3) pe_int (nomark _)) (pss_one (ps_ret (pe_tupS (pa_cons pe_str (pa_cons (pe_ix ix_list (pv 4) (pe_call GD hr1 rfl gD kD bD .nil pass0 (pa_cons (pv 0) (pa_cons pe_int pa_nil))) (fun _ _ => rfl)) pa_nil))))) pss_nil)
      (pss_cons (ps_if (pt_cmpR op_lt (pv 3) pe_int (nomark _)) (pss_one (ps_ret (pe_tupS (pa_cons pe_str (pa_cons (pe_ix ix_list (pv 1) (pe_call GD hr1 rfl gD kD bD .nil pass0 (pa_cons (pv 0) (pa_cons (pe_callB call_len_seq (by rfl) zl PySem.boot_len (pa_cons (pv 1) pa_nil)) pa_nil))) (fun _ _ => rfl)) pa_nil))))) pss_nil)
      (pss_cons (ps_if (pt_cmpR op_lt (pv 3) pe_int (nomark _))
          (pss_cons (ps_set (i := 5) scTr.nd rfl (.inl rfl) (pe_lstS (pa_cons pe_str (pa_cons pe_str (pa_cons pe_str (pa_cons pe_str (pa_cons pe_str pa_nil)))))))
          (pss_one (ps_ret (pe_tupS (pa_cons pe_str (pa_cons (pe_ix ix_list (pv 5) (pe_call GD hr1 rfl gD kD bD .nil pass0 (pa_cons (pv 0) (pa_cons pe_int pa_nil))) (fun _ _ => rfl)) (pa_cons (pe_call GT hr rfl gT kT bT .nil pass0 (pa_cons (pv 0) (pa_cons (pv 1) (pa_cons (pe_op op_sub (pv 2) pe_int) pa_nil)))) pa_nil))))))) pss_nil)
      (pss_cons (ps_set (i := 6) scTr.nd rfl (.inl rfl) (pe_ix ix_str pe_str (pe_call GD hr1 rfl gD kD bD .nil pass0 (pa_cons (pv 0) (pa_cons pe_int pa_nil))) (fun _ _ => rfl)))
      (pss_cons (ps_set (i := 7) scTr.nd rfl (.inl rfl) (pe_call GT hr rfl gT kT bT .nil pass0 (pa_cons (pv 0) (pa_cons (pv 1) (pa_cons (pe_op op_sub (pv 2) pe_int) pa_nil)))))
      (pss_one (ps_ret (pe_tupS (pa_cons (pv 6) (pa_cons (pv 7) (pa_cons (pe_call GT hr rfl gT kT bT .nil pass0 (pa_cons (pv 0) (pa_cons (pv 1) (pa_cons (pe_op op_sub (pv 2) pe_int) pa_nil)))) pa_nil)))))))))))), ?_⟩
    have hna' : ∀ {H' : Hp}, Off p H H' → H' na = some (.lst (NMS.map V.str)) := fun o => o _ _ ne hna
    refine ⟨.ref p, rfl, .int e, rfl, _, _, rfl, rfl, .inr ⟨_, rfl, _, _, rfl, rfl, .inl ⟨by decide, by decide⟩, _, _, rfl, rfl, p, if e = 0 then 3 else 8, ?_, by split <;> decide, by split <;> decide, lp, fun H1 r o1 l1 hlt => ?_⟩⟩
    · cases e with
      | zero => rfl
      | succ e =>
        rw [show decide ((((e + 1 : Nat) : Int)) > 0) = true from decide_eq_true (by omega)]
        rfl
    refine ⟨by show 6 ≤ 1000; decide, fun wl2 H2 s2 n2 e2 => ?_⟩
    have w2 : H2 wl2 = some (.lst (WORDS.map V.str)) := e2
    have o2 : Off p H H2 := o1.trans (Off.of s2)
    have l2 := l1.mono s2
    have nw : wl2 ≠ p := fun z => by obtain ⟨ms, e9, _⟩ := l1; rw [z, e9] at n2; cases n2
    refine ⟨.int r, rfl, rfl, _, rfl, ?_⟩
    by_cases h0 : r = 0
    · subst h0
      refine iteT ⟨.ref wl2, rfl, .ref p, rfl, p, 6, rfl, by decide, by decide, l2, fun H3 i o3 l3 hi => ?_⟩
      refine ⟨wl2, _, _, _, rfl, rfl, SqL.of (o3 _ _ nw w2), at_map (l := WORDS) hi, by show 2 ≤ 1000; decide, fun u H4 s4 n4 e4 => ?_⟩
      obtain ⟨ok, sm⟩ := okW_of (words_ok _ (List.mem_append_left _ (List.getElem_mem hi)))
      exact q H4 _ _ ((o2.trans o3).trans (Off.of s4)) (l3.mono s4) (show TrAt "of" H4 (.ref u) (.word (WORDS[i])) from ⟨u, rfl, e4⟩) ok sm (Nat.zero_le _)
    · rw [show decide (V.int (r : Int) = V.int 0) = false from decide_eq_false fun e => h0 (by have := V.int.inj e; omega)]
      refine iteF ⟨.int r, rfl, _, _, rfl, rfl, _, rfl, ?_⟩
      by_cases h3 : r < 3
      · rw [show decide ((r : Int) < 3) = true from decide_eq_true (by omega)]
        refine iteT ⟨.ref na, rfl, .ref p, rfl, .ref na, rfl, na, _, rfl, .inl (SqL.of (hna' o2)), p, 4, rfl, by decide, by decide, l2, fun H3 i o3 l3 hi => ?_⟩
        refine ⟨na, _, _, _, rfl, rfl, SqL.of (hna' (o2.trans o3)), at_map (l := NMS) hi, by show 2 ≤ 1000; decide, fun u H4 s4 n4 e4 => ?_⟩
        obtain ⟨ok, sm⟩ := okW_of (words_ok _ (List.mem_append_right _ (List.getElem_mem hi)))
        exact q H4 _ _ ((o2.trans o3).trans (Off.of s4)) (l3.mono s4) (show TrAt "of" H4 (.ref u) (.word (NMS[i])) from ⟨u, rfl, e4⟩) ok sm (Nat.zero_le _)
      · rw [show decide ((r : Int) < 3) = false from decide_eq_false (by omega)]
        obtain ⟨e, rfl⟩ : ∃ e', e = e' + 1 := by
          cases e with
          | zero => rw [if_pos rfl] at hlt; omega
          | succ e => exact ⟨e, rfl⟩
        have ed : ((e + 1 : Nat) : Int) - 1 = (e : Int) := by omega
        have eq3 : [V.ref p, V.ref na, V.int (((e + 1 : Nat) : Int) - 1)] = [V.ref p, V.ref na, V.int (e : Int)] := by rw [ed]
        refine iteF ⟨.int r, rfl, _, _, rfl, rfl, _, rfl, ?_⟩
        by_cases h5 : r < 5
        · rw [show decide ((r : Int) < 5) = true from decide_eq_true (by omega)]
          refine iteT ⟨by show 5 ≤ 1000; decide, fun rl H3 s3 n3 e3 => ?_⟩
          have r3 : H3 rl = some (.lst (ROADS.map V.str)) := e3
          have nr : rl ≠ p := fun z => by obtain ⟨ms, e9, _⟩ := l2; rw [z, e9] at n3; cases n3
          refine ⟨.ref rl, rfl, .ref p, rfl, p, 5, rfl, by decide, by decide, l2.mono s3, fun H4 i o4 l4 hi => ?_⟩
          refine ⟨rl, _, _, _, rfl, rfl, SqL.of (o4 _ _ nr r3), at_map (l := ROADS) hi, .ref p, rfl, .ref na, rfl, .int (e + 1 : Nat), rfl, _, _, rfl, rfl, p, na, eq3, l4, hna' ((o2.trans (Off.of s3)).trans o4), ne, fun H5 v t o5 l5 tr ok sm hd' => ⟨by show 3 ≤ 1000; decide, fun u H6 s6 n6 e6 => ?_⟩⟩
          obtain ⟨ok2, sm2⟩ := road_ok (List.getElem_mem (l := ROADS) hi) ok sm
          exact q H6 _ _ ((((o2.trans (Off.of s3)).trans o4).trans o5).trans (Off.of s6)) (l5.mono s6) (show TrAt "of" H6 (.ref u) (.road (ROADS[i]) t) from ⟨u, v, rfl, e6, tr.mono (Tk.of s6)⟩) ok2 sm2 (by show dep t + 1 ≤ e + 1; omega)
        · rw [show decide ((r : Int) < 5) = false from decide_eq_false (by omega)]
          refine iteF ⟨.ref p, rfl, p, 3, rfl, by decide, by decide, l2, fun H3 i o3 l3 hi => ?_⟩
          obtain ⟨c, hc, hg⟩ := at_signs i hi
          refine ⟨"&|-", _, c, rfl, rfl, by decide, atI_nat hc, .ref p, rfl, .ref na, rfl, .int (e + 1 : Nat), rfl, _, _, rfl, rfl, p, na, eq3, l3, hna' (o2.trans o3), ne, fun H4 v t o4 l4 tr ok sm hd' => ?_⟩
          refine ⟨.str ⟨#[c]⟩, rfl, v, rfl, .ref p, rfl, .ref na, rfl, .int (e + 1 : Nat), rfl, _, _, rfl, rfl, p, na, eq3, l4, hna' ((o2.trans o3).trans o4), ne, fun H5 v2 t2 o5 l5 tr2 ok2 sm2 hd2 => ⟨by show 3 ≤ 1000; decide, fun u H6 s6 n6 e6 => ?_⟩⟩
          exact q H6 _ _ ((((o2.trans o3).trans o4).trans o5).trans (Off.of s6)) (l5.mono s6) (show TrAt "of" H6 (.ref u) (.bin ⟨#[c]⟩ t t2) from ⟨u, v, v2, rfl, e6, (tr.mono (lat_tk l4 o5)).mono (Tk.of s6), tr2.mono (Tk.of s6)⟩) ⟨hg, ok, ok2⟩ ⟨sm, sm2⟩ (by show max (dep t) (dep t2) + 1 ≤ e + 1; omega)
end
end AQ

set_option Elab.async false
set_option linter.all false
set_option maxRecDepth 100000
set_option maxHeartbeats 4000000
/-! try with a clause 'except x as n' that meets each exception that the body lets out, and more clauses behind it; a text so often. -/
namespace FS
open PySem PySem.Spec PyProof.Rows L2 HandSPX
/-- the first clause meets it -/
def wAs1 (K : PySem.W.Frag) (c : Value) (i : Nat) (ts : Addr → Value → Option Addr → TS) (D : Ends) : WX := fun cls d σ H =>
  PySem.W.exmOne K cls c = some true ∧ ∀ a, H a = none → ts a cls d { nx := fun σ' H' => D.nx (σ'.set i none) H', rt := D.rt, bk := fun σ' H' => D.bk (σ'.set i none) H', ct := fun σ' H' => D.ct (σ'.set i none) H' } (σ.set i (some (.ref a))) H
section
variable {X : Cx} {x n : Str} {c : Value} {i : Nat} {body suite : List Stmt} {b₀ : Stmt} {np pos pos' : Pos} {hds : List ExceptHandler} {tb : WX → TS} {ts : Addr → Value → Option Addr → TS}
theorem ps_try_as1 (hs : X.stack = X.env :: X.outer) (hf : X.env.frame = some X.env.locals) (hN : X.N.Nodup) (hi : X.N[i]? = some n) (hln : X.env.kindOf n = some .local) (hc : Names X x c)
    (hb : ∀ (W : WX) (pn : List (Addr × Obj)) (xe : Value → Shared → Prop), L2.Takes (X.tr pn xe) W → PassesOwn (model X.prog X.w) X.A X.env xe → PSs (X.tr pn xe) body (tb W))
    (hsu : ∀ (a : Addr) (oe : Obj) (cls : Value) (d : Option Addr) (pn : List (Addr × Obj)), Zc cls d oe → (∃ vs, oe.data = .fields vs) → PSs (X.suite a ((a, oe) :: pn)) (b₀ :: suite) (ts a cls d)) :
    PS X (.Try body (.ExceptHandler (some (.Name x np)) (some n) (b₀ :: suite) pos' :: hds) [] [] pos) (fun D σ H => tb (wAs1 X.K c i ts D) D σ H) := by
  refine ⟨fun pins s σ H D I h => wpAny_Try_except ?_⟩
  have ok := I.ok
  have run := (hb (wAs1 X.K c i ts D) (X.pn ++ pins) (fun e s₁ => wpAny (model X.prog X.w) X.A (noteFrame e X.env) (fun _ s₂ => wpAny (model X.prog X.w) X.A (setFlight e none) (fun _ s₃ =>
    wpAny (model X.prog X.w) X.A (handleBy e X.env (.ExceptHandler (some (.Name x np)) (some n) (b₀ :: suite) pos' :: hds)) (SP X pins D) X.xe s₃) X.xe s₂) X.xe s₁) ?_ PassesOwn.looking).run [] s σ H D (I.toTry _) h
  · refine wpAny_mono run (fun f s1 hsp => ?_) (fun e s1 he => he)
    cases f with
    | next => obtain ⟨σ', H', J', q⟩ := hsp; exact wpAny_execs_nil ⟨σ', H', J'.ofTry ok, q⟩
    | brk => obtain ⟨σ', H', J', q⟩ := hsp; exact ⟨σ', H', J'.ofTry ok, q⟩
    | cont => obtain ⟨σ', H', J', q⟩ := hsp; exact ⟨σ', H', J'.ofTry ok, q⟩
    | ret u => obtain ⟨v, σ', H', J', r, q⟩ := hsp; exact ⟨v, σ', H', J'.ofTry ok, r, q⟩
  · intro u s' xx
    obtain ⟨a, B, sI, pins', σ', H', cls, d, rfl, J', nb, up, sky, na, os, ag, met, suiteOf⟩ := xx
    have J : Inv X pins σ' H' sI := J'.ofTry ok
    rw [hs] at sky
    have hfr : X.A.frames = some (X.env :: X.outer) := by rw [ok.frames, hs]
    show wpAny (model X.prog X.w) X.A (noteFrame (.ref a) X.env) _ _ _
    refine Sky.land Zc.steady hfr hf sky fun h3 fl3 up3 => ?_
    have J3 : Inv X pins σ' H' { s' with heap := h3 } := J.landed nb fl3.1 (up.trans up3) os ag
    obtain ⟨oe3, vs3, he3, hz3, hd3⟩ := fl3.there
    have off : a ∉ frs (X.env :: X.outer) := fun hm => by
      obtain ⟨_, o', e', hnf⟩ := fl3.2.2.1.mem hm
      rw [he3] at e'
      cases e'
      exact hnf _ hd3
    have nL : a ≠ X.env.locals := fun z => off (List.mem_filterMap.mpr ⟨X.env, List.mem_cons_self, by rw [hf, z]⟩)
    have nF : a ∉ X.fs := fun hm => by
      obtain ⟨e, he, q⟩ := List.mem_filterMap.mp hm
      exact off (List.mem_filterMap.mpr ⟨e, List.mem_cons_of_mem _ he, q⟩)
    have S3 := J3.suite he3 hd3 na nL nF
    have looks : PySem.W.Looks (model X.prog X.w) h3 (typeOf (.ref a)) cls := fun A Q E s k q => wpAny_typeOf_ref (k _ _ he3) (by rw [hz3.1]; exact q)
    refine wpAny_handleBy_cons (codeAny_handlers_test ?_) (by intro q; cases q)
    have named : ∀ {Q : Value → Shared → Prop} {E : Value → Shared → Prop}, Q c { s' with heap := h3 } → wpAny (model X.prog X.w) (X.A.mark (some (.ref a))) (eval (.Name x np) X.env) Q E { s' with heap := h3 } := fun {Q E} q => by
      obtain ⟨hg, hdbg, hm | ⟨hm, hv, hnn⟩⟩ := hc
      · exact ld_glob (X := X.suite a ((a, oe3) :: (X.pn ++ pins))) S3 hg hm q hdbg
      · exact ld_blt (X := X.suite a ((a, oe3) :: (X.pn ++ pins))) S3 hg hm hv q hnn hdbg
    refine named ((PySem.W.exm_one (M := model X.prog X.w) J3.kIn looks met).here (codeAny_handlers_suite_as ?_))
    refine HandSPX.lands_againZ fl3 fun h4 fl4 up4 => ?_
    have J4 : Inv X pins σ' H' { s' with heap := h4 } := J.landed nb fl4.1 ((up.trans up3).trans up4) os ag
    obtain ⟨oe4, vs4, he4, hz4, hd4⟩ := fl4.there
    refine store_ok (X := X.suite a ((a, oe4) :: (X.pn ++ pins))) (v := .ref a) (J4.suite he4 hd4 na nL nF) hN hi (.inl hln) rfl (fun s5 S5 => ?_) (.inr hln)
    refine wpAny_mono ((hsu a oe4 cls d (X.pn ++ pins) hz4 ⟨_, hd4⟩).run [] s5 _ H' _ S5 (suiteOf a na)) (fun f s6 hsp => ?_) (fun _ _ z => False.elim z)
    cases f with
    | next => obtain ⟨σ6, H6, S6, q6⟩ := hsp; exact gone_ok (S6.unsuite ok) hN hi hln fun s7 J7 => ⟨_, _, J7, q6⟩
    | brk => obtain ⟨σ6, H6, S6, q6⟩ := hsp; exact gone_ok (S6.unsuite ok) hN hi hln fun s7 J7 => ⟨_, _, J7, q6⟩
    | cont => obtain ⟨σ6, H6, S6, q6⟩ := hsp; exact gone_ok (S6.unsuite ok) hN hi hln fun s7 J7 => ⟨_, _, J7, q6⟩
    | ret u => obtain ⟨v6, σ6, H6, S6, r6, q6⟩ := hsp; exact gone_ok (S6.unsuite ok) hN hi hln fun s7 J7 => ⟨_, _, _, J7, r6, q6⟩
theorem op_mulS : OpR X (binaryOp .Mult) (fun x y H Q => ∃ (z : Str) (n : Int), x = .str z ∧ y = .int n ∧ MulOk z n ∧ Q (.str (Txt.mul z n)) H) := by
  intro pins s σ H x y v u Q I rx ry h
  obtain ⟨z, n, rfl, rfl, ok, q⟩ := h
  obtain ⟨t, rfl⟩ := rx
  obtain ⟨t', rfl⟩ := ry
  exact PySem.SB.mul ok fun t2 k => ⟨.str (Txt.mul z n), H, I.tok _, ⟨_, rfl⟩, q⟩
end
theorem mulOk {z : Str} {n : Nat} (h : z.length * n ≤ 100000) (hn : n ≤ 100000) : MulOk z n := by
  refine ⟨by simp; omega, fun h1 h2 => ?_, fun h1 h2 => ?_⟩
  · have e : ((2 : Int) ^ 63 - 1) / (n : Int) ≥ 100000 := by
      have : (100000 : Int) * (n : Int) ≤ 2 ^ 63 - 1 := by omega
      exact (Int.le_ediv_iff_mul_le (by omega)).mpr this
    have hz : z.length ≤ 100000 := by
      have : 1 ≤ n := by omega
      exact Nat.le_trans (Nat.le_mul_of_pos_right _ this) h
    omega
  · show Builtin.Str.tooLong (z.length * (n : Int).toNat) = false
    rw [show (n : Int).toNat = n from rfl]
    unfold Builtin.Str.tooLong
    exact decide_eq_false (by have : (100000 : Nat) ≤ sizeLine := by decide
                              omega)
theorem mul_cs (z : Str) (n : Nat) : (Txt.mul z n).cps.toList = (List.replicate n z.cps.toList).flatten := by
  unfold Txt.mul
  have fold : ∀ (m : Nat) (acc : Array Nat), ((List.replicate m z.cps).foldl (· ++ ·) acc).toList = acc.toList ++ (List.replicate m z.cps.toList).flatten := fun m => by
    induction m with
    | zero => intro acc; simp
    | succ m ih => intro acc; rw [List.replicate_succ, List.foldl_cons, ih, List.replicate_succ, List.flatten_cons, Array.toList_append, List.append_assoc]
  by_cases h1 : (n : Int) < 1
  · rw [if_pos h1]
    have : n = 0 := by omega
    subst this
    rfl
  · rw [if_neg h1]
    by_cases h2 : ((n : Int) == 1 || z.length == 0) = true
    · rw [if_pos h2]
      rcases Bool.or_eq_true_iff.mp h2 with h | h
      · have : n = 1 := by have := beq_iff_eq.mp h; omega
        subst this
        simp
      · have h : z.length = 0 := beq_iff_eq.mp h
        have e : z.cps.toList = [] := List.length_eq_zero_iff.mp (by show z.cps.toList.length = 0; rw [← h]; show _ = z.cps.size; simp)
        rw [e]
        simp
    · rw [if_neg h2]
      show ((List.replicate (n : Int).toNat z.cps).foldl (· ++ ·) #[]).toList = _
      rw [fold]
      simp
end FS

set_option Elab.async false
set_option linter.all false
set_option maxRecDepth 100000
set_option maxHeartbeats 4000000
/-! The law's own reading of words. -/
namespace AQ
open PySem PySem.Spec PyProof.Rows L2 L2.FK FS TX
def BAR : List Str := ["func", "data", "end", "export", "alias", "call", "callr", "ret", "addr", "set", "move", "read", "readr", "same", "choose", "tell", "go"]
def BARS : Str := "func data end export alias call callr ret addr set move read readr same choose tell go"
theorem bars : Txt.split BARS " " = BAR := by decide +kernel
/-- the law's is_name -/
def lName (z : Str) : Bool := decide ((1 : Int) ≤ z.length) && (decide ((z.length : Int) ≤ 8) && (match cs z with | c :: _ => !decide (c < 97) && !decide (122 < c) | [] => false)) && (!decide (46 ∈ cs z) && !BAR.contains z)
theorem inL_rng (c : Nat) : inL c = (!decide (c < 97) && !decide (122 < c)) := by
  have k : ∀ d ∈ LET.cps.toList, d < 123 ∧ 96 < d := by decide +kernel
  have k2 : ∀ d < 123, 96 < d → d ∈ LET.cps.toList := by decide +kernel
  unfold inL
  by_cases h : c ∈ LET.cps.toList
  · rw [decide_eq_true h, decide_eq_false (by have := k c h; omega), decide_eq_false (by have := k c h; omega)]
    rfl
  · rw [decide_eq_false h]
    by_cases h1 : c < 97
    · rw [decide_eq_true h1]; rfl
    · by_cases h2 : 122 < c
      · rw [decide_eq_true h2]; simp
      · exact absurd (k2 c (by omega) (by omega)) h
theorem form_bar : ∀ l : List (Str × List Str), ∀ z : Str, (l.lookup z).isSome = (l.map (·.1)).contains z
  | [], z => rfl
  | (k, v) :: r, z => by
    rw [List.lookup_cons, List.map_cons, List.contains_cons]
    cases h : z == k with
    | true => rfl
    | false => rw [form_bar r z]; rfl
theorem bar_eq (z : Str) : BAR.contains z = (OTHERS.contains z || (formOf z).isSome) := by
  unfold formOf
  rw [form_bar]
  have : BAR = OTHERS ++ FORM.map (·.1) := by decide +kernel
  rw [this]
  have app : ∀ a b : List Str, (a ++ b).contains z = (a.contains z || b.contains z) := fun a b => by
    induction a with
    | nil => simp
    | cons x r ih => rw [List.cons_append, List.contains_cons, List.contains_cons, ih, Bool.or_assoc]
  exact app _ _
theorem lName_eq {z : Str} (h : (cs z).all inW = true) : lName z = isName z := by
  have hb := bar_eq z
  have h1 : decide ((1 : Int) ≤ z.length) = decide (1 ≤ z.length) := by
    by_cases e : 1 ≤ z.length
    · rw [decide_eq_true e, decide_eq_true (by omega)]
    · rw [decide_eq_false e, decide_eq_false (by omega)]
  have h2 : decide ((z.length : Int) ≤ 8) = decide (z.length ≤ 8) := by
    by_cases e : z.length ≤ 8
    · rw [decide_eq_true e, decide_eq_true (by omega)]
    · rw [decide_eq_false e, decide_eq_false (by omega)]
  have h3 : (match cs z with | c :: _ => !decide (c < 97) && !decide (122 < c) | [] => false) = ((z.cps.toList[0]?).any inL) := by
    show _ = (((cs z)[0]?).any inL)
    cases cs z with
    | nil => rfl
    | cons c r => show _ = inL c; rw [inL_rng]
  have h4 : (!decide (46 ∈ cs z)) = (z.cps.toList.all fun c => inL c || inD c) := by
    show _ = ((cs z).all fun c => inL c || inD c)
    have k : inL 46 = false ∧ inD 46 = false := by decide +kernel
    by_cases e : 46 ∈ cs z
    · rw [decide_eq_true e]
      symm
      refine Bool.eq_false_iff.mpr fun q => ?_
      have := List.all_eq_true.mp q 46 e
      rw [k.1, k.2] at this
      cases this
    · rw [decide_eq_false e]
      symm
      refine List.all_eq_true.mpr fun c hc => ?_
      have := List.all_eq_true.mp h c hc
      unfold inW at this
      have hn : (c == 46) = false := by
        have : c ≠ 46 := fun q => e (by rw [← q]; exact hc)
        simpa using this
      rw [hn, Bool.or_false] at this
      exact this
  unfold lName isName
  rw [hb, h1, h2, h3, h4]
  cases decide (1 ≤ z.length) <;> cases decide (z.length ≤ 8) <;> cases OTHERS.contains z <;> cases (formOf z).isSome <;> cases ((z.cps.toList[0]?).any inL) <;> cases (z.cps.toList.all fun c => inL c || inD c) <;> rfl
theorem in_joinL {S : List Nat} : ∀ {l : List (List Nat)} {p : List Nat} {c : Nat}, p ∈ l → c ∈ p → c ∈ TL.joinL S l
  | [a], p, c, hp, hc => by
    rw [List.mem_singleton.mp hp] at hc
    exact hc
  | a :: b :: r, p, c, hp, hc => by
    show c ∈ a ++ (S ++ TL.joinL S (b :: r))
    rcases List.mem_cons.mp hp with rfl | h
    · exact List.mem_append_left _ hc
    · exact List.mem_append_right _ (List.mem_append_right _ (in_joinL h hc))
theorem split_in {z y : Str} {p : Str} (hp : p ∈ Txt.split z y) {c : Nat} (hc : c ∈ cs p) : c ∈ cs z := by
  have e := congrArg TL.tl (PySem.StrLaws.join_split z y)
  rw [TL.tl_join] at e
  show c ∈ TL.tl z
  rw [← e]
  exact in_joinL (p := TL.tl p) (List.mem_map_of_mem hp) hc
theorem parts_in {z : Str} (h : (cs z).all inW = true) {p : Str} (hp : p ∈ Txt.split z ".") : (cs p).all inW = true :=
  List.all_eq_true.mpr fun c hc => List.all_eq_true.mp h c (split_in hp hc)
theorem full_law {z : Str} (h : (cs z).all inW = true) : isFull z = (decide ((Txt.split z ".").length = 2) && (Txt.split z ".").all lName) := by
  unfold isFull
  congr 1
  refine Bool.eq_iff_iff.mpr ⟨fun q => List.all_eq_true.mpr fun p hp => ?_, fun q => List.all_eq_true.mpr fun p hp => ?_⟩
  · rw [lName_eq (parts_in h hp)]; exact List.all_eq_true.mp q p hp
  · rw [← lName_eq (parts_in h hp)]; exact List.all_eq_true.mp q p hp
section
variable {P : Program} {w : World} {K : PySem.W.Frag} {mg : Str → Option Value} {base : Heap}
/-! ### _law_is_name -/
def spLN : Sp := fun vs H Q _ => ∃ z, vs = [.str z] ∧ z.length ≤ 900 ∧ ∀ H', Same H H' → Q (.bl (lName z)) H'
theorem scLN : FnScope ["_law_word", "_law_barred"] ["_law_word"] (defScope (sLw 5)) := ⟨rfl, rfl, rfl, by decide +kernel, rfl, by decide +kernel, by decide +kernel⟩
theorem a1 : ("a" : Str) = ⟨#[97]⟩ := by decide +kernel
theorem z1 : ("z" : Str) = ⟨#[122]⟩ := by decide +kernel
theorem bars_len : BARS.length = 86 := by decide +kernel
theorem ok_lname {f : Addr} {fd : FuncData} (F : Fun K "_law_is_name" "_law_is_name" (sLw 5) f fd) (zl : mg "len" = none) : FnOk P w K mg base CX0 1 f fd ["_law_word"] spLN := by
  refine F.ok scLN (fun vs H Q E h => ?_) (fun cdv A outer s H vs Q E hr h => ?_)
  · obtain ⟨z, rfl, _⟩ := h
    rfl
  · obtain ⟨z, rfl, hz, q⟩ := h
    have hzs : z.length ≤ sizeLine := Nat.le_trans hz (by decide)
    refine ⟨_, pss_cons (ps_if (PW.pt (pw_or (pt_not (pt_chain op_le op_le pe_int (pe_callB call_len_str (by rfl) zl PySem.boot_len (pa_cons (pv 0) pa_nil)) pe_int))
        (pw_or1 (pt_not (pt_chain op_le_str op_le_str pe_str (pe_ix ix_str (pv 0) pe_int (fun _ _ => rfl)) pe_str))))) (pss_one (ps_ret pe_bl)) pss_nil)
      (pss_cons (ps_set (i := 1) scLN.nd rfl (.inl rfl) pe_str)
      (pss_one (ps_ret (pe_and (pe_cmpR op_notIn_sign pe_str (pv 0) (by rfl)) (pe_one (pe_cmpR (r := rIn K true) op_notIn_seq (pv 0) (pe_bm PySem.F.plainAttrs_str PySem.F.slot_str_split PySem.F.type_str_split mt_splitQ (pv 1) (pa_cons pe_str pa_nil)) (by rfl))))))), ?_⟩
    have no : ∀ b, lName z = b → ∀ H', Same H H' → Q (.bl b) H' := fun b e H' s => by rw [← e]; exact q H' s
    refine ⟨.str z, rfl, z, rfl, hzs, _, _, rfl, rfl, _, rfl, ?_⟩
    refine ite2 (fun h1 => ?_) (fun h1 => ⟨_, rfl, iteT (no false ?_ H (Same.refl H))⟩)
    rotate_left
    · have h1 : decide ((1 : Int) ≤ z.length) = false := Bool.eq_false_iff.mpr h1
      unfold lName
      rw [h1]; rfl
    refine ⟨_, _, rfl, rfl, _, rfl, ?_⟩
    have h1 : decide ((1 : Int) ≤ z.length) = true := h1
    by_cases h2 : (z.length : Int) ≤ 8
    rotate_left
    · rw [decide_eq_false h2]
      refine iteT (no false ?_ H (Same.refl H))
      unfold lName
      rw [decide_eq_false h2, Bool.false_and, Bool.and_false]; rfl
    rw [decide_eq_true h2]
    have hlen : 1 ≤ (cs z).length := by rw [show (cs z).length = z.length from len_cps z]; have := of_decide_eq_true h1; omega
    obtain ⟨c, r, hc⟩ : ∃ c r, cs z = c :: r := by
      cases e : cs z with
      | nil => rw [e] at hlen; cases hlen
      | cons c r => exact ⟨c, r, rfl⟩
    have hc0 : z.cps.toList[0]? = some c := by rw [show z.cps.toList = c :: r from hc]; rfl
    have e3 : (match cs z with | c :: _ => !decide (c < 97) && !decide (122 < c) | [] => false) = (!decide (c < 97) && !decide (122 < c)) := by rw [hc]
    refine iteF ⟨.str z, rfl, z, 0, c, rfl, rfl, hzs, atI_nat (j := 0) hc0, "a", ⟨#[c]⟩, rfl, rfl, _, rfl, ?_⟩
    rw [show (!decide ((⟨#[c]⟩ : Str).cps.toList < ("a" : Str).cps.toList)) = !decide (c < 97) from by rw [a1]; exact congrArg _ (sgl c 97)]
    cases h3 : decide (c < 97) with
    | true =>
      refine ⟨_, rfl, iteT (no false ?_ H (Same.refl H))⟩
      unfold lName
      rw [e3, h3, h1, decide_eq_true h2]; rfl
    | false =>
      refine ⟨⟨#[c]⟩, "z", rfl, rfl, _, rfl, ?_⟩
      rw [show (!decide (("z" : Str).cps.toList < (⟨#[c]⟩ : Str).cps.toList)) = !decide (122 < c) from by rw [z1]; exact congrArg _ (sgl 122 c)]
      cases h4 : decide (122 < c) with
      | true =>
        refine iteT (no false ?_ H (Same.refl H))
        unfold lName
        rw [e3, h3, h4, h1, decide_eq_true h2]; rfl
      | false =>
        have el : lName z = (!decide (46 ∈ cs z) && !BAR.contains z) := by
          unfold lName
          rw [e3, h3, h4, h1, decide_eq_true h2]; rfl
        refine iteF ⟨.str z, rfl, 46, z, by rw [dot1], rfl, _, rfl, ?_⟩
        cases h5 : decide (46 ∈ z.cps.toList) with
        | true => exact iteF (no _ (by rw [el, show decide (46 ∈ cs z) = true from h5]; rfl) H (Same.refl H))
        | false =>
          have ty : tyV K "str" (.str BARS) H := rfl
          refine iteT ⟨.str z, rfl, .str BARS, rfl, ty, BARS, " ", rfl, rfl, by decide +kernel, by rw [bars_len]; decide, fun p H1 s1 n1 e1 => ?_⟩
          rw [bars] at e1
          refine ⟨p, _, rfl, .inl (SqL.of e1), rfl, flat_txt BAR, ?_⟩
          rw [show (if true = true then !inV (V.str z) (BAR.map V.str) else inV (V.str z) (BAR.map V.str)) = !BAR.contains z from by rw [if_pos rfl]; exact congrArg not (inV_txt z BAR)]
          exact no _ (by rw [el, show decide (46 ∈ cs z) = false from h5]; rfl) H1 s1
/-! ### _law_kind -/
def kdS : Nat → Str
  | 1 => "word"
  | 2 => "road"
  | _ => "none"
def spKd : Sp := fun vs H Q _ => ∃ z, vs = [.str z] ∧ z.length ≤ 800 ∧ (cs z).all inW = true ∧ ∀ H', Same H H' → Q (.str (kdS (kd z))) H'
theorem scKd : FnScope ["_law_word", "_law_parts"] ["_law_word"] (defScope (sLw 6)) := ⟨rfl, rfl, rfl, by decide +kernel, rfl, by decide +kernel, by decide +kernel⟩
theorem ok_kind {f fN : Addr} {fd fdN : FuncData} (F : Fun K "_law_kind" "_law_kind" (sLw 6) f fd) (zl : mg "len" = none)
    (GN : FnOk P w K mg base CX0 1 fN fdN ["_law_word"] spLN) (bN : Binds K fdN ["_law_word"] []) (gN : mg "_law_is_name" = some (.ref fN)) (kN : PySem.W.keepIn K (.ref fN) = true) : FnOk P w K mg base CX0 2 f fd ["_law_word"] spKd := by
  refine F.ok scKd (fun vs H Q E h => ?_) (fun cdv A outer s H vs Q E hr h => ?_)
  · obtain ⟨z, rfl, _⟩ := h
    rfl
  · obtain ⟨z, rfl, hz, hin, q⟩ := h
    refine ⟨_, pss_cons (ps_set (i := 1) scKd.nd rfl (.inl rfl) (pe_bm PySem.F.plainAttrs_str PySem.F.slot_str_split PySem.F.type_str_split mt_splitQ (pv 0) (pa_cons pe_str pa_nil)))
      (pss_cons (ps_if (pt_cmpR (r := rIn K false) op_in_seq (pv 0) (pe_tupS (pa_cons pe_str (pa_cons pe_str (pa_cons pe_str (pa_cons pe_str (pa_cons pe_str (pa_cons pe_str pa_nil))))))) (by rfl)) (pss_one (ps_ret pe_str)) pss_nil)
      (pss_cons (ps_if (PW.pt (pw_and (pt_cmpR op_eq (pe_callB (id := "len") (r := rLenQ K) call_len_seq (by rfl) zl PySem.boot_len (pa_cons (pv 1) pa_nil)) pe_int (nomark _))
          (pw_and (pt_val (pe_call GN hr rfl gN kN bN .nil pass0 (pa_cons (pe_ix (r := rIxL K) ix_list (pv 1) pe_int (fun _ _ => rfl)) pa_nil))) (pw_and1 (pt_val (pe_call GN hr rfl gN kN bN .nil pass0 (pa_cons (pe_ix (r := rIxL K) ix_list (pv 1) pe_int (fun _ _ => rfl)) pa_nil))))))) (pss_one (ps_ret pe_str)) pss_nil)
      (pss_one (ps_ret (pe_ifExp (pt_cmpR (r := rIn K false) op_in_seq (pv 0) (pe_tupS (pa_cons pe_str (pa_cons pe_str (pa_cons pe_str (pa_cons pe_str (pa_cons pe_str pa_nil)))))) (by rfl)) pe_str pe_str))))), ?_⟩
    have hsl := split_len z "." (by decide +kernel)
    have eF := full_law hin
    generalize hL : Txt.split z "." = L at hsl eF
    have ty : tyV K "str" (.str z) H := rfl
    refine ⟨.str z, rfl, ty, z, ".", rfl, rfl, by decide +kernel, Nat.le_trans (by omega) (show 1000 ≤ sizeLine by decide), fun p H1 s1 n1 e1 => ?_⟩
    rw [hL] at e1
    refine ⟨.str z, rfl, by show 6 ≤ 1000; decide, fun t2 H2 s2 n2 e2 => ⟨t2, _, rfl, .inr (SqT.of e2), rfl, rfl, _, rfl, ?_⟩⟩
    rw [show (if false = true then !inV (V.str z) [V.str "all", V.str "funcs", V.str "data", V.str "taken", V.str "used", V.str "kept"] else inV (V.str z) [V.str "all", V.str "funcs", V.str "data", V.str "taken", V.str "used", V.str "kept"]) = WORDS.contains z from inV_txt z WORDS]
    have s12 := s1.trans s2
    cases hw : WORDS.contains z with
    | true =>
      have : kd z = 1 := kd_word (by unfold isW; rw [hw]; rfl)
      rw [this] at q
      exact iteT (q H2 s12)
    | false =>
      have e1' := s2 _ _ e1
      refine iteF ⟨.ref p, rfl, p, _, rfl, .inl (SqL.of e1'), rfl, _, rfl, ?_⟩
      have eN : decide (V.int ((L.map V.str).length : Int) = V.int 2) = decide (L.length = 2) := by
        rw [List.length_map]
        by_cases h : L.length = 2
        · rw [h]; rfl
        · rw [decide_eq_false h, decide_eq_false fun e => h (by have := V.int.inj e; omega)]
      have eW : isW z = isFull z := by unfold isW; rw [hw]; rfl
      have tail : isFull z = false → ∀ H3, Same H H3 → tIf (tTest (tOp (rIn K false) (tVar 0) (tTupS (tCons (tC (.str "bodies")) (tCons (tC (.str "mates")) (tCons (tC (.str "calls")) (tCons (tC (.str "takes")) (tCons (tC (.str "leads")) tNil)))))))) (tC (.str "road")) (tC (.str "none")) [some (.str z), some (.ref p)] H3 Q := fun hF H3 s3 => by
        refine ⟨.str z, rfl, by show 5 ≤ 1000; decide, fun t4 H4 s4 n4 e4 => ⟨t4, _, rfl, .inr (SqT.of e4), rfl, rfl, _, rfl, ?_⟩⟩
        rw [show (if false = true then !inV (V.str z) [V.str "bodies", V.str "mates", V.str "calls", V.str "takes", V.str "leads"] else inV (V.str z) [V.str "bodies", V.str "mates", V.str "calls", V.str "takes", V.str "leads"]) = ROADS.contains z from inV_txt z ROADS]
        cases hr : ROADS.contains z with
        | true =>
          rw [kd_road hr] at q
          exact iteT (q H4 (s3.trans s4))
        | false =>
          rw [kd_no hr (by rw [eW]; exact hF)] at q
          exact iteF (q H4 (s3.trans s4))
      rw [eN]
      cases hl2 : decide (L.length = 2) with
      | false => exact iteF (tail (by rw [eF, hl2]; rfl) H2 s12)
      | true =>
        have h2 : L.length = 2 := of_decide_eq_true hl2
        match L, h2, e1', eF, hsl with
        | [a, b], _, e1', eF, hsl =>
          have la := hsl.2 a (by simp)
          have lb := hsl.2 b (by simp)
          rw [hl2, Bool.true_and] at eF
          have eF : isFull z = (lName a && (lName b && true)) := eF
          refine iteT ⟨.ref p, rfl, p, _, 0, _, rfl, rfl, SqL.of e1', atI_nat (j := 0) rfl, a, rfl, by omega, fun H3 s3 => ⟨_, rfl, ?_⟩⟩
          cases ha : lName a with
          | false => exact iteF (tail (by rw [eF, ha]; rfl) H3 (s12.trans s3))
          | true =>
            refine iteT ⟨.ref p, rfl, p, _, 1, _, rfl, rfl, SqL.of (s3 _ _ e1'), atI_nat (j := 1) rfl, b, rfl, by omega, fun H4 s4 => ⟨_, rfl, ?_⟩⟩
            cases hb : lName b with
            | false => exact iteF (tail (by rw [eF, ha, hb]; rfl) H4 ((s12.trans s3).trans s4))
            | true =>
              have : kd z = 1 := kd_word (by rw [eW, eF, ha, hb]; rfl)
              rw [this] at q
              exact iteT (q H4 ((s12.trans s3).trans s4))
/-! ### _law_word_end -/
def WCH : Str := "abcdefghijklmnopqrstuvwxyz0123456789."
theorem wch_in (c : Nat) : decide (c ∈ WCH.cps.toList) = inW c := by
  have e : WCH.cps.toList = LET.cps.toList ++ (DIG.cps.toList ++ [46]) := by decide +kernel
  rw [e]
  unfold inW inL inD
  by_cases h1 : c ∈ LET.cps.toList <;> by_cases h2 : c ∈ DIG.cps.toList <;> by_cases h3 : c = 46 <;> simp [h1, h2, h3]
def spWE : Sp := fun vs H Q _ => ∃ (z : Str) (i : Nat), vs = [.str z, .int i] ∧ z.length ≤ 1000 ∧ i ≤ (cs z).length ∧ Q (.int ((i + (tw ((cs z).drop i)).length : Nat) : Int)) H
theorem scWE : FnScope ["_law_text", "_law_spot", "_law_end"] ["_law_text", "_law_spot"] (defScope (sLw 7)) := ⟨rfl, rfl, rfl, by decide +kernel, rfl, by decide +kernel, by decide +kernel⟩
def tWe : TT := fun σ H Q => ∃ (i : Nat) (z : Str), σ[2]? = some (some (.int i)) ∧ σ[0]? = some (some (.str z)) ∧ z.length ≤ 1000 ∧ Q (isWd (cs z)[i]?) H
theorem ok_wend {f : Addr} {fd : FuncData} (F : Fun K "_law_word_end" "_law_word_end" (sLw 7) f fd) (zl : mg "len" = none) : FnOk P w K mg base CX0 1 f fd ["_law_text", "_law_spot"] spWE := by
  refine F.ok scWE (fun vs H Q E h => ?_) (fun cdv A outer s H vs Q E hr h => ?_)
  · obtain ⟨z, i, rfl, _⟩ := h
    rfl
  · obtain ⟨z, i, rfl, hz, hi, q⟩ := h
    have hzs : ∀ {y : Str}, y.length ≤ 1000 → y.length ≤ sizeLine := fun h => Nat.le_trans h (by decide)
    refine ⟨_, pss_cons (ps_set (i := 2) scWE.nd rfl (.inl rfl) (pv 1))
      (pss_cons (ps_while PassesOwn.never (pt_imp (t' := tWe) (PW.pt (pw_and (pt_cmpR op_lt (pv 2) (pe_callB call_len_str (by rfl) zl PySem.boot_len (pa_cons (pv 0) pa_nil)) (nomark _)) (pw_and1 (pt_cmpR op_in_sign (pe_ix ix_str (pv 0) (pv 2) (fun _ _ => rfl)) pe_str (by rfl))))) ?wd)
          (pss_one (ps_set (i := 2) scWE.nd rfl (.inl rfl) (pe_op op_add (pv 2) pe_int))))
      (pss_one (ps_ret (pv 2)))), ?_⟩
    case wd =>
      rintro σ H Q ⟨i, y, h1, h2, hy, q⟩
      refine ⟨.int i, h1, .str y, h2, y, rfl, hzs hy, _, _, rfl, rfl, _, rfl, ?_⟩
      rcases Nat.lt_or_ge i (cs y).length with lt | ge
      · have e : (cs y)[i]? = some ((cs y)[i]) := List.getElem?_eq_getElem lt
        rw [decide_eq_true (by have := (show (cs y).length = y.length from len_cps y); show (i : Int) < (y.length : Int); omega)]
        rw [e] at q
        refine iteT ⟨.str y, h2, .int i, h1, y, _, _, rfl, rfl, hzs hy, atI_nat e, _, WCH, rfl, rfl, _, rfl, ?_⟩
        rw [wch_in]
        exact q
      · have e : (cs y)[i]? = none := List.getElem?_eq_none_iff.mpr ge
        rw [decide_eq_false (by have := (show (cs y).length = y.length from len_cps y); show ¬ (i : Int) < (y.length : Int); omega)]
        rw [e] at q
        exact iteF q
    refine ⟨.int i, rfl, ?_⟩
    refine ⟨fun n σ H' => ∃ j : Nat, σ = [some (.str z), some (.int i), some (.int j)] ∧ H' = H ∧ i ≤ j ∧ j ≤ (cs z).length ∧ n = (cs z).length - j ∧ (((cs z).drop i).takeWhile inW).length = (j - i) + (((cs z).drop j).takeWhile inW).length, ⟨_, i, rfl, rfl, Nat.le_refl _, hi, rfl, by omega⟩, ?_⟩
    rintro n σ H2 ⟨j, rfl, rfl, hij, hj, rfl, ew⟩
    refine ⟨j, z, rfl, rfl, hz, ?_⟩
    cases hb2 : isWd (cs z)[j]? with
    | true =>
      obtain ⟨e1, lt⟩ := wd_at hb2
      exact iteT ⟨fun σ' H' => ∃ m', m' < (cs z).length - j ∧ _, fun _ _ h => h, .int j, rfl, j, 1, rfl, rfl, (cs z).length - (j + 1), by omega, j + 1, rfl, rfl, by omega, lt, rfl, by omega⟩
    | false =>
      have e0 := wd_end hb2
      rw [e0] at ew
      refine iteF ⟨.int j, rfl, ?_⟩
      have : i + (tw ((cs z).drop i)).length = j := by unfold tw; omega
      rw [this] at q
      exact q
end
end AQ

set_option Elab.async false
set_option linter.all false
set_option maxRecDepth 100000
set_option maxHeartbeats 4000000
/-! The law's scanner: where a text goes wrong. -/
namespace AQ
open PySem PySem.Spec PyProof.Rows L2 L2.FK FS TX
def wS : Nat → Str
  | 0 => "part"
  | 1 => "open"
  | _ => "sign"
theorem wS_eq {w : Nat} (h : w ≤ 2) : decide (wS w = "part") = decide (w = 0) ∧ decide (wS w = "sign") = decide (w = 2) ∧ ((["part", "open"] : List Str).contains (wS w)) = decide (w ≠ 2) := by
  match w, h with
  | 0, _ => decide +kernel
  | 1, _ => decide +kernel
  | 2, _ => decide +kernel
theorem kdS_eq (z : Str) : decide (kdS (kd z) = "none") = decide (kd z = 0) ∧ decide (kdS (kd z) = "word") = decide (kd z = 1) := by
  unfold kd
  split
  · decide +kernel
  · split
    · decide +kernel
    · decide +kernel
def plV (z : Str) : Option S → V
  | none => .non
  | some s => .int (plc z s)
theorem Sc.next {c : Nat} {r s' : S} {k w k' w' : Nat} {o : Option S} (h : Sc (c :: r) k w o) (e : stp c r k w = some (s', k', w')) : Sc s' k' w' o := by
  cases h with
  | stop e' => rw [e] at e'; cases e'
  | step e' h' => rw [e] at e'; cases e'; exact h'
theorem Sc.here {c : Nat} {r : S} {k w : Nat} {o : Option S} (h : Sc (c :: r) k w o) (e : stp c r k w = none) : o = some (c :: r) := by
  cases h with
  | stop e' => rfl
  | step e' h' => rw [e] at e'; cases e'
section
variable {P : Program} {w : World} {K : PySem.W.Frag} {mg : Str → Option Value} {base : Heap}
def spPl : Sp := fun vs H Q _ => ∃ (z : Str) (o : Option S), vs = [.str z] ∧ z.length ≤ 600 ∧ Sc (cs z) 0 0 o ∧ ∀ H', Same H H' → Q (plV z o) H'
abbrev nmPl : List Str := ["_law_text", "_law_spot", "_law_nested", "_law_wanted", "_law_sign", "_law_end", "_law_kind_here"]
theorem scPl : FnScope nmPl ["_law_text"] (defScope (sLw 8)) := ⟨rfl, rfl, rfl, by decide +kernel, rfl, by decide +kernel, by decide +kernel⟩
theorem str_dec (a b : Str) : decide (V.str a = V.str b) = decide (a = b) := str_ne a b
theorem op1 : ("(" : Str) = ⟨#[40]⟩ := by decide +kernel
theorem cl1 : (")" : Str) = ⟨#[41]⟩ := by decide +kernel
theorem sg3 (c : Nat) : decide (c ∈ ("&|-" : Str).cps.toList) = decide (c = 38 ∨ c = 124 ∨ c = 45) := by
  have e : ("&|-" : Str).cps.toList = [38, 124, 45] := by decide +kernel
  rw [e]
  congr 1
  simp
theorem in_two {z : Str} {H : Hp} : (if false = true then !inV (V.str z) [V.str "part", V.str "open"] else inV (V.str z) [V.str "part", V.str "open"]) = (["part", "open"] : List Str).contains z := inV_txt z ["part", "open"]
def tOpn : TT := fun σ H Q => ∃ c k w : Nat, σ[4]? = some (some (.str ⟨#[c]⟩)) ∧ σ[2]? = some (some (.int k)) ∧ σ[3]? = some (some (.str (wS w))) ∧ w ≤ 2 ∧ ∀ H', Same H H' → Q (decide (c = 40 ∧ w ≠ 2 ∧ k < 8)) H'
def tPrt : TT := fun σ H Q => ∃ (y : Str) (w : Nat), σ[6]? = some (some (.str (kdS (kd y)))) ∧ σ[3]? = some (some (.str (wS w))) ∧ w ≤ 2 ∧ Q (decide (w = 0 ∧ kd y ≠ 0)) H
def tSgn : TT := fun σ H Q => ∃ c w : Nat, σ[4]? = some (some (.str ⟨#[c]⟩)) ∧ σ[3]? = some (some (.str (wS w))) ∧ w ≤ 2 ∧ Q (decide (w = 2 ∧ (c = 38 ∨ c = 124 ∨ c = 45))) H
def tCls : TT := fun σ H Q => ∃ c k w : Nat, σ[4]? = some (some (.str ⟨#[c]⟩)) ∧ σ[2]? = some (some (.int k)) ∧ σ[3]? = some (some (.str (wS w))) ∧ w ≤ 2 ∧ Q (decide (w = 2 ∧ c = 41 ∧ 0 < k)) H
theorem ok_place {f fE fK : Addr} {fd fdE fdK : FuncData} (F : Fun K "_law_place" "_law_place" (sLw 8) f fd) (zl : mg "len" = none)
    (GE : FnOk P w K mg base CX0 1 fE fdE ["_law_text", "_law_spot"] spWE) (bE : Binds K fdE ["_law_text", "_law_spot"] []) (gE : mg "_law_word_end" = some (.ref fE)) (kE : PySem.W.keepIn K (.ref fE) = true)
    (GK : FnOk P w K mg base CX0 2 fK fdK ["_law_word"] spKd) (bK : Binds K fdK ["_law_word"] []) (gK : mg "_law_kind" = some (.ref fK)) (kK : PySem.W.keepIn K (.ref fK) = true) : FnOk P w K mg base CX0 3 f fd ["_law_text"] spPl := by
  refine F.ok scPl (fun vs H Q E h => ?_) (fun cdv A outer s H vs Q E hr h => ?_)
  · obtain ⟨z, o, rfl, _⟩ := h
    rfl
  · obtain ⟨z, o, rfl, hz, sc, q⟩ := h
    have hr1 : Room 1 _ := hr.mono (by decide)
    have hzs : z.length ≤ sizeLine := Nat.le_trans hz (by decide)
    have ln : (cs z).length = z.length := len_cps z
    refine ⟨_, pss_cons (ps_set (i := 1) scPl.nd rfl (.inl rfl) pe_int)
      (pss_cons (ps_set (i := 2) scPl.nd rfl (.inl rfl) pe_int)
      (pss_cons (ps_set (i := 3) scPl.nd rfl (.inl rfl) pe_str)
      (pss_cons (ps_while PassesOwn.never (pt_cmpR op_lt (pv 1) (pe_callB call_len_str (by rfl) zl PySem.boot_len (pa_cons (pv 0) pa_nil)) (nomark _))
      (pss_cons (ps_set (i := 4) scPl.nd rfl (.inl rfl) (pe_ix ix_str (pv 0) (pv 1) (fun _ _ => rfl)))
      (pss_cons (ps_set (i := 5) scPl.nd rfl (.inl rfl) (pe_call GE hr1 rfl gE kE bE .nil pass0 (pa_cons (pv 0) (pa_cons (pv 1) pa_nil))))
      (pss_cons (ps_set (i := 6) scPl.nd rfl (.inl rfl) (pe_call GK hr rfl gK kK bK .nil pass0 (pa_cons (pe_slice sl_str (pv 0) (po_some (pv 1)) (po_some (pv 5))) pa_nil)))
      (pss_one (ps_if (pt_cmpR op_eq (pv 4) pe_str (nomark _)) (pss_one (ps_set (i := 1) scPl.nd rfl (.inl rfl) (pe_op op_add (pv 1) pe_int))) (pss_one (ps_if (pt_imp (t' := tOpn) (PW.pt (pw_and (pt_cmpR op_eq (pv 4) pe_str (nomark _)) (pw_and (pt_cmpR (r := rIn K false) op_in_seq (pv 3) (pe_tupS (pa_cons pe_str (pa_cons pe_str pa_nil))) (by rfl)) (pw_and1 (pt_cmpR op_lt (pv 2) pe_int (nomark _)))))) ?opn) (pss_cons (ps_set (i := 2) scPl.nd rfl (.inl rfl) (pe_op op_add (pv 2) pe_int))
      (pss_cons (ps_set (i := 3) scPl.nd rfl (.inl rfl) pe_str)
      (pss_one (ps_set (i := 1) scPl.nd rfl (.inl rfl) (pe_op op_add (pv 1) pe_int))))) (pss_one (ps_if (pt_imp (t' := tPrt) (PW.pt (pw_and (pt_cmpR op_eq (pv 3) pe_str (nomark _)) (pw_and1 (pt_cmpR op_ne (pv 6) pe_str (nomark _))))) ?prt) (pss_cons (ps_set (i := 3) scPl.nd rfl (.inl rfl) (pe_ifExp (pt_cmpR op_eq (pv 6) pe_str (nomark _)) pe_str pe_str))
      (pss_one (ps_set (i := 1) scPl.nd rfl (.inl rfl) (pv 5)))) (pss_one (ps_if (pt_imp (t' := tSgn) (PW.pt (pw_and (pt_cmpR op_eq (pv 3) pe_str (nomark _)) (pw_and1 (pt_cmpR op_in_sign (pv 4) pe_str (by rfl))))) ?sgn) (pss_cons (ps_set (i := 3) scPl.nd rfl (.inl rfl) pe_str)
      (pss_one (ps_set (i := 1) scPl.nd rfl (.inl rfl) (pe_op op_add (pv 1) pe_int)))) (pss_one (ps_if (pt_imp (t' := tCls) (PW.pt (pw_and (pt_cmpR op_eq (pv 3) pe_str (nomark _)) (pw_and (pt_cmpR op_eq (pv 4) pe_str (nomark _)) (pw_and1 (pt_cmpR op_gt (pv 2) pe_int (nomark _)))))) ?cls) (pss_cons (ps_set (i := 2) scPl.nd rfl (.inl rfl) (pe_op op_sub (pv 2) pe_int))
      (pss_one (ps_set (i := 1) scPl.nd rfl (.inl rfl) (pe_op op_add (pv 1) pe_int)))) (pss_one (ps_ret (pv 1)))))))))))))))))
      (pss_one (ps_ret (pe_ifExp (PW.pt (pw_and (pt_cmpR op_eq (pv 3) pe_str (nomark _)) (pw_and1 (pt_cmpR op_eq (pv 2) pe_int (nomark _))))) pe_non (pe_callB call_len_str (by rfl) zl PySem.boot_len (pa_cons (pv 0) pa_nil)))))))), ?_⟩
    case opn =>
      rintro σ H Q ⟨c, k, w, h1, h2, h3, hw, q⟩
      obtain ⟨w1, w2, w3⟩ := wS_eq hw
      refine ⟨.str ⟨#[c]⟩, h1, rfl, _, rfl, ?_⟩
      rw [op1, sign_eq]
      by_cases hc : c = 40
      rotate_left
      · rw [show (c == 40) = false by simpa using hc]
        rw [decide_eq_false (fun h => hc h.1)] at q
        exact iteF (q H (Same.refl H))
      rw [show (c == 40) = true by simpa using hc]
      refine iteT ⟨.str (wS w), h3, by show 2 ≤ 1000; decide, fun t3 H3 s3 n3 e3 => ⟨t3, _, rfl, .inr (SqT.of e3), rfl, rfl, _, rfl, ?_⟩⟩
      rw [in_two (H := H3), w3]
      by_cases hw2 : w = 2
      · rw [show decide (w ≠ 2) = false from decide_eq_false (fun h => h hw2)]
        rw [decide_eq_false (fun h => h.2.1 hw2)] at q
        exact iteF (q H3 s3)
      rw [show decide (w ≠ 2) = true from decide_eq_true hw2]
      refine iteT ⟨.int k, h2, _, _, rfl, rfl, _, rfl, ?_⟩
      by_cases hk : k < 8
      · rw [show decide ((k : Int) < 8) = true from decide_eq_true (by omega)]
        rw [decide_eq_true ⟨hc, hw2, hk⟩] at q
        exact q H3 s3
      · rw [show decide ((k : Int) < 8) = false from decide_eq_false (by omega)]
        rw [decide_eq_false (fun h => hk h.2.2)] at q
        exact q H3 s3
    case prt =>
      rintro σ H Q ⟨y, w, h1, h2, hw, q⟩
      obtain ⟨w1, w2, w3⟩ := wS_eq hw
      obtain ⟨q1, q2⟩ := kdS_eq y
      refine ⟨.str (wS w), h2, rfl, _, rfl, ?_⟩
      rw [str_dec, w1]
      by_cases hw0 : w = 0
      rotate_left
      · rw [decide_eq_false hw0]
        rw [decide_eq_false (fun h => hw0 h.1)] at q
        exact iteF q
      rw [decide_eq_true hw0]
      refine iteT ⟨.str (kdS (kd y)), h1, rfl, _, rfl, ?_⟩
      rw [str_dec, q1]
      by_cases hk : kd y = 0
      · rw [decide_eq_true hk]
        rw [decide_eq_false (fun h => h.2 hk)] at q
        exact q
      · rw [decide_eq_false hk]
        rw [decide_eq_true ⟨hw0, hk⟩] at q
        exact q
    case sgn =>
      rintro σ H Q ⟨c, w, h1, h2, hw, q⟩
      obtain ⟨w1, w2, w3⟩ := wS_eq hw
      refine ⟨.str (wS w), h2, rfl, _, rfl, ?_⟩
      rw [str_dec, w2]
      by_cases hw0 : w = 2
      rotate_left
      · rw [decide_eq_false hw0]
        rw [decide_eq_false (fun h => hw0 h.1)] at q
        exact iteF q
      rw [decide_eq_true hw0]
      refine iteT ⟨.str ⟨#[c]⟩, h1, c, "&|-", rfl, rfl, _, rfl, ?_⟩
      rw [sg3]
      by_cases hc : c = 38 ∨ c = 124 ∨ c = 45
      · rw [decide_eq_true hc]
        rw [decide_eq_true ⟨hw0, hc⟩] at q
        exact q
      · rw [decide_eq_false hc]
        rw [decide_eq_false (fun h => hc h.2)] at q
        exact q
    case cls =>
      rintro σ H Q ⟨c, k, w, h1, h2, h3, hw, q⟩
      obtain ⟨w1, w2, w3⟩ := wS_eq hw
      refine ⟨.str (wS w), h3, rfl, _, rfl, ?_⟩
      rw [str_dec, w2]
      by_cases hw0 : w = 2
      rotate_left
      · rw [decide_eq_false hw0]
        rw [decide_eq_false (fun h => hw0 h.1)] at q
        exact iteF q
      rw [decide_eq_true hw0]
      refine iteT ⟨.str ⟨#[c]⟩, h1, rfl, _, rfl, ?_⟩
      rw [cl1, sign_eq]
      by_cases hc : c = 41
      rotate_left
      · rw [show (c == 41) = false by simpa using hc]
        rw [decide_eq_false (fun h => hc h.2.1)] at q
        exact iteF q
      rw [show (c == 41) = true by simpa using hc]
      refine iteT ⟨.int k, h2, _, _, rfl, rfl, _, rfl, ?_⟩
      by_cases hk : 0 < k
      · rw [show decide ((k : Int) > 0) = true from decide_eq_true (by omega)]
        rw [decide_eq_true ⟨hw0, hc, hk⟩] at q
        exact q
      · rw [show decide ((k : Int) > 0) = false from decide_eq_false (by omega)]
        rw [decide_eq_false (fun h => hk h.2.2)] at q
        exact q
    refine ⟨fun n σ H' => ∃ (i k w : Nat) (y4 y5 y6 : Option V), σ = [some (.str z), some (.int i), some (.int k), some (.str (wS w)), y4, y5, y6] ∧ Same H H' ∧ i ≤ (cs z).length ∧ w ≤ 2 ∧ k ≤ 8 ∧ n = (cs z).length - i ∧ Sc ((cs z).drop i) k w o, ⟨_, 0, 0, 0, none, none, none, rfl, Same.refl H, Nat.zero_le _, by decide, by decide, rfl, sc⟩, ?_⟩
    rintro n σ H1 ⟨i, k, w, y4, y5, y6, rfl, s1, hi, hw, hk, rfl, sc⟩
    refine ⟨.int i, rfl, .str z, rfl, z, rfl, hzs, _, _, rfl, rfl, _, rfl, ?_⟩
    obtain ⟨w1, w2, w3⟩ := wS_eq hw
    rcases Nat.lt_or_ge i (cs z).length with lt | ge
    · rw [decide_eq_true (by show (i : Int) < (z.length : Int); omega)]
      refine iteT ⟨fun σ' H' => ∃ m', m' < (cs z).length - i ∧ _, fun _ _ h => h, ?_⟩
      have ec : (cs z)[i]? = some ((cs z)[i]) := List.getElem?_eq_getElem lt
      have ed : (cs z).drop i = (cs z)[i] :: (cs z).drop (i + 1) := List.drop_eq_getElem_cons lt
      generalize hc : (cs z)[i] = c at ec ed
      generalize hR : (cs z).drop (i + 1) = R at ed
      rw [ed] at sc
      have tl_ : (tw (c :: R)).length ≤ (c :: R).length := by
        unfold tw
        exact (List.takeWhile_prefix _).length_le
      have lR : (c :: R).length = (cs z).length - i := by rw [← ed, List.length_drop]
      have twin : (tw (c :: R)).all inW = true := List.all_takeWhile
      have cut : cutS z (some (i : Int)) (some ((i + (tw (c :: R)).length : Nat) : Int)) = ws (c :: R) := by
        unfold cutS ws
        rw [HT.sIx_nat, HT.sIx_nat, Nat.min_eq_left (show i ≤ z.length by omega), Nat.min_eq_left (show i + (tw (c :: R)).length ≤ z.length by omega), show z.cps.toList.drop i = c :: R from ed]
        refine congrArg (fun l : List Nat => (⟨l.toArray⟩ : Str)) ?_
        rw [show i + (tw (c :: R)).length - i = (tw (c :: R)).length by omega]
        unfold tw
        have : ∀ s : S, s.take (s.takeWhile inW).length = s.takeWhile inW := fun s => by
          induction s with
          | nil => rfl
          | cons c r ih =>
            rw [List.takeWhile_cons]
            cases h : inW c with
            | true => rw [if_pos rfl, List.length_cons, List.take_succ_cons, ih]
            | false => rw [if_neg (by simp)]; rfl
        exact this _
      refine ⟨.str z, rfl, .int i, rfl, z, _, _, rfl, rfl, hzs, atI_nat ec, ?_⟩
      refine ⟨.str z, rfl, .int i, rfl, z, i, rfl, by omega, hi, ?_⟩
      rw [ed]
      have wl_ : (ws (c :: R)).length ≤ 800 := by
        rw [← len_cps]
        show (tw (c :: R)).toArray.toList.length ≤ 800
        simp only
        omega
      refine ⟨.str z, rfl, .int i, rfl, _, rfl, .int ((i + (tw (c :: R)).length : Nat) : Int), rfl, _, rfl, z, rfl, hzs, ?_⟩
      rw [cut]
      refine ⟨ws (c :: R), rfl, wl_, twin, fun H2 s2 => ?_⟩
      have s12 := s1.trans s2
      obtain ⟨q1, q2⟩ := kdS_eq (ws (c :: R))
      have on : ∀ {i' k' w' : Nat} {z4 z5 z6 : Option V} {H' : Hp} {s' : S}, stp c R k w = some (s', k', w') → s' = (cs z).drop i' → i < i' → i' ≤ (cs z).length → w' ≤ 2 → k' ≤ 8 → Same H H' →
          ∃ m', m' < (cs z).length - i ∧ ∃ (i2 k2 w2 : Nat) (y4 y5 y6 : Option V), ([some (.str z), some (.int i'), some (.int k'), some (.str (wS w')), z4, z5, z6] : L2.St) = [some (.str z), some (.int i2), some (.int k2), some (.str (wS w2)), y4, y5, y6] ∧ Same H H' ∧ i2 ≤ (cs z).length ∧ w2 ≤ 2 ∧ k2 ≤ 8 ∧ m' = (cs z).length - i2 ∧ Sc ((cs z).drop i2) k2 w2 o := by
        intro i' k' w' z4 z5 z6 H' s' e es h1 h2 h3 h4 h5
        refine ⟨(cs z).length - i', by omega, i', k', w', z4, z5, z6, rfl, h5, h2, h3, h4, rfl, ?_⟩
        rw [← es]
        exact sc.next e
      have out : stp c R k w = none → ∀ H', Same H H' → Q (.int i) H' := fun e H' s' => by
        have eo := sc.here e
        have := q H' s'
        rw [eo] at this
        have ep : plc z (c :: R) = (i : Int) := by unfold plc; omega
        have this : Q (.int (plc z (c :: R))) H' := this
        rw [ep] at this
        exact this
      have i1 : ((i : Int) + 1) = ((i + 1 : Nat) : Int) := by omega
      refine ⟨.str ⟨#[c]⟩, rfl, rfl, _, rfl, ?_⟩
      rw [sp1, sign_eq]
      by_cases c32 : c = 32
      · rw [show (c == 32) = true by simpa using c32]
        refine iteT ⟨.int i, rfl, _, _, rfl, rfl, ?_⟩
        exact on (i' := i + 1) (by unfold stp; rw [if_pos c32]) hR.symm (by omega) lt hw hk s12
      rw [show (c == 32) = false by simpa using c32]
      refine iteF ⟨c, k, w, rfl, rfl, rfl, hw, fun H3 s3 => ?_⟩
      have s13 := s12.trans s3
      by_cases h2 : c = 40 ∧ w ≠ 2 ∧ k < 8
      · rw [decide_eq_true h2]
        refine iteT ⟨.int k, rfl, _, _, rfl, rfl, .int i, rfl, _, _, rfl, rfl, ?_⟩
        exact on (i' := i + 1) (k' := k + 1) (w' := 0) (by unfold stp; rw [if_neg c32, if_pos h2]) hR.symm (by omega) lt (by decide) (by omega) s13
      rw [decide_eq_false h2]
      refine iteF ⟨ws (c :: R), w, rfl, rfl, hw, ?_⟩
      by_cases h3 : w = 0 ∧ kd (ws (c :: R)) ≠ 0
      · rw [decide_eq_true h3]
        have lw : 1 ≤ (tw (c :: R)).length := by
          rcases Nat.eq_zero_or_pos (tw (c :: R)).length with e | e
          · exfalso
            refine h3.2 ?_
            have : tw (c :: R) = [] := List.length_eq_zero_iff.mp e
            rw [show ws (c :: R) = "" by unfold ws; rw [this]; rfl]
            exact kd_nil
          · exact e
        refine iteT ⟨.str (kdS (kd (ws (c :: R)))), rfl, rfl, _, rfl, ?_⟩
        rw [str_dec, q2]
        have go : ∀ w' : Nat, (if kd (ws (c :: R)) = 1 then 2 else 1) = w' → w' ≤ 2 → _ := fun w' e h => on (i' := i + (tw (c :: R)).length) (k' := k) (w' := w') (z4 := some (.str ⟨#[c]⟩)) (z5 := some (.int ((i + (tw (c :: R)).length : Nat) : Int))) (z6 := some (.str (kdS (kd (ws (c :: R)))))) (s' := (c :: R).drop (tw (c :: R)).length) (by unfold stp; rw [if_neg c32, if_neg h2, if_pos h3, e]) (by rw [← ed, List.drop_drop]) (by omega) (by omega) h hk s13
        by_cases h1 : kd (ws (c :: R)) = 1
        · rw [decide_eq_true h1]
          exact iteT ⟨_, rfl, go 2 (by rw [if_pos h1]) (by decide)⟩
        · rw [decide_eq_false h1]
          exact iteF ⟨_, rfl, go 1 (by rw [if_neg h1]) (by decide)⟩
      rw [decide_eq_false h3]
      refine iteF ⟨c, w, rfl, rfl, hw, ?_⟩
      by_cases h4 : w = 2 ∧ (c = 38 ∨ c = 124 ∨ c = 45)
      · rw [decide_eq_true h4]
        refine iteT ⟨.int i, rfl, _, _, rfl, rfl, ?_⟩
        exact on (i' := i + 1) (w' := 0) (by unfold stp; rw [if_neg c32, if_neg h2, if_neg h3, if_pos h4]) hR.symm (by omega) lt (by decide) hk s13
      rw [decide_eq_false h4]
      refine iteF ⟨c, k, w, rfl, rfl, rfl, hw, ?_⟩
      by_cases h5 : w = 2 ∧ c = 41 ∧ 0 < k
      · rw [decide_eq_true h5]
        refine iteT ⟨.int k, rfl, _, _, rfl, rfl, .int i, rfl, _, _, rfl, rfl, ?_⟩
        dsimp only
        rw [show ((k : Int) - 1) = ((k - 1 : Nat) : Int) by have := h5.2.2; omega]
        have := on (i' := i + 1) (k' := k - 1) (w' := 2) (z4 := some (.str ⟨#[c]⟩)) (z5 := some (.int ((i + (tw (c :: R)).length : Nat) : Int))) (z6 := some (.str (kdS (kd (ws (c :: R)))))) (by unfold stp; rw [if_neg c32, if_neg h2, if_neg h3, if_neg h4, if_pos h5]) hR.symm (by omega) lt (by decide) (by omega) s13
        rw [h5.1]
        exact this
      rw [decide_eq_false h5]
      exact iteF ⟨.int i, rfl, out (by unfold stp; rw [if_neg c32, if_neg h2, if_neg h3, if_neg h4, if_neg h5]) H3 s13⟩
    · rw [decide_eq_false (by show ¬ (i : Int) < (z.length : Int); omega)]
      have ie : (cs z).drop i = [] := List.drop_of_length_le ge
      rw [ie] at sc
      refine iteF ⟨.str (wS w), rfl, rfl, _, rfl, ?_⟩
      rw [str_dec, w2]
      have nd : ¬ (w = 2 ∧ k = 0) → Q (.int z.length) H1 := fun h => by
        have e := sc.det (Sc.end_ h)
        have := q H1 s1
        rw [e] at this
        have ep : plc z [] = (z.length : Int) := by unfold plc; rw [ln]; simp
        have this : Q (.int (plc z [])) H1 := this
        rw [ep] at this
        exact this
      have fin : ¬ (w = 2 ∧ k = 0) → tCB (fun xs H Q => ∃ i, xs = [.str i] ∧ i.length ≤ sizeLine ∧ Q (.int i.length) H) (tCons (tVar 0) tNil) [some (.str z), some (.int i), some (.int k), some (.str (wS w)), y4, y5, y6] H1 Q := fun h => ⟨.str z, rfl, z, rfl, hzs, nd h⟩
      by_cases h2 : w = 2
      · rw [decide_eq_true h2]
        refine iteT ⟨.int k, rfl, rfl, _, rfl, ?_⟩
        by_cases h0 : k = 0
        · rw [show decide (V.int (k : Int) = V.int 0) = true by rw [h0]; rfl]
          have e := sc.det (show Sc [] k w none by rw [h0, h2]; exact .done)
          have := q H1 s1
          rw [e] at this
          exact iteT this
        · rw [show decide (V.int (k : Int) = V.int 0) = false from decide_eq_false fun e => h0 (by have := V.int.inj e; omega)]
          exact iteF (fin (fun h => h0 h.2))
      · rw [decide_eq_false h2]
        exact iteF (iteF (fin (fun h => h2 h.1)))
end
end AQ

set_option Elab.async false
set_option linter.all false
set_option maxRecDepth 100000
set_option maxHeartbeats 4000000
/-! The least text and spaced ones, as the law makes them. -/
namespace AQ
open PySem PySem.Spec PyProof.Rows L2 L2.FK FS TX
def hdO : Tr → Str
  | .word _ => "word"
  | .road _ _ => "of"
  | .bin g _ _ => g
theorem TrAt.headO {H : Hp} {v : V} {t : Tr} (h : TrAt "of" H v t) : ∃ q rest, v = .ref q ∧ H q = some (.tup (.str (hdO t) :: rest)) := by
  cases t with
  | word w => obtain ⟨q, e, h⟩ := h; exact ⟨q, _, e, h⟩
  | road r t => obtain ⟨q, u, e, h, _⟩ := h; exact ⟨q, _, e, h⟩
  | bin g a b => obtain ⟨q, x, y, e, h, _⟩ := h; exact ⟨q, _, e, h⟩
theorem hdO_l {t : Tr} : LOOSE.contains (hdO t) = isL t := by
  cases t with
  | word w => show LOOSE.contains "word" = false; decide +kernel
  | road r t => show LOOSE.contains "of" = false; decide +kernel
  | bin g a b => rfl
theorem hdO_a {t : Tr} : decide (hdO t = "&") = isA t := by
  cases t with
  | word w => show decide (("word" : Str) = "&") = false; decide +kernel
  | road r t => show decide (("of" : Str) = "&") = false; decide +kernel
  | bin g a b => rfl
section
variable {P : Program} {w : World} {K : PySem.W.Frag} {mg : Str → Option Value} {base : Heap}
def spLeast (e : Nat) : Sp := fun vs H Q _ => ∃ v t, vs = [v] ∧ TrAt "of" H v t ∧ sg t ∧ dep t ≤ e ∧ (lt t).length ≤ 100000 ∧ ∀ H', Same H H' → Q (.str (lt t)) H'
def spLeastP : Nat → Sp
  | 0 => fun _ _ _ _ => False
  | e + 1 => spLeast e
theorem scLe : FnScope ["_law_tree_here", "_law_first", "_law_second"] ["_law_tree_here"] (defScope (sLw 3)) := ⟨rfl, rfl, rfl, by decide +kernel, rfl, by decide +kernel, by decide +kernel⟩
theorem ok_leastF {f : Addr} {fd : FuncData} (F : Fun K "_law_least_text" "_law_least_text" (sLw 3) f fd) : FnOk P w K mg base CX0 1 f fd ["_law_tree_here"] (spLeastP 0) :=
  F.ok scLe (fun vs H Q E h => h.elim) (fun cdv A outer sh H vs Q E hr h => (h : False).elim)
theorem ok_least {f : Addr} {fd : FuncData} {e k : Nat} (F : Fun K "_law_least_text" "_law_least_text" (sLw 3) f fd)
    (GT : FnOk P w K mg base CX0 k f fd ["_law_tree_here"] (spLeastP e)) (bT : Binds K fd ["_law_tree_here"] []) (gT : mg "_law_least_text" = some (.ref f)) (kT : PySem.W.keepIn K (.ref f) = true) : FnOk P w K mg base CX0 (k + 1) f fd ["_law_tree_here"] (spLeast e) := by
  refine F.ok scLe (fun vs H Q E h => ?_) (fun cdv A outer sh H vs Q E hr h => ?_)
  · obtain ⟨v, t, rfl, _⟩ := h
    rfl
  · obtain ⟨v, t, rfl, tr, hsg, hd', hl, q⟩ := h
    refine ⟨_, pss_cons (ps_if (pt_cmpR op_eq (pe_ix ix_tup (pv 0) pe_int (fun _ _ => rfl)) pe_str (nomark _)) (pss_one (ps_ret (pe_ix ix_tup (pv 0) pe_int (fun _ _ => rfl)))) pss_nil)
      (pss_cons (ps_if (pt_cmpR op_eq (pe_ix ix_tup (pv 0) pe_int (fun _ _ => rfl)) pe_str (nomark _)) (pss_one (ps_ret (pe_op op_add_str (pe_op op_add_str (pe_op op_add_str (pe_ix ix_tup (pv 0) pe_int (fun _ _ => rfl)) pe_str) (pe_call GT hr rfl gT kT bT .nil pass0 (pa_cons (pe_ix ix_tup (pv 0) pe_int (fun _ _ => rfl)) pa_nil))) pe_str))) pss_nil)
      (pss_cons (ps_set (i := 1) scLe.nd rfl (.inl rfl) (pe_call GT hr rfl gT kT bT .nil pass0 (pa_cons (pe_ix ix_tup (pv 0) pe_int (fun _ _ => rfl)) pa_nil)))
      (pss_cons (ps_set (i := 2) scLe.nd rfl (.inl rfl) (pe_call GT hr rfl gT kT bT .nil pass0 (pa_cons (pe_ix ix_tup (pv 0) pe_int (fun _ _ => rfl)) pa_nil)))
      (C8.pss_cut (ps_if (PW.pt (pw_and (pt_cmpR op_eq (pe_ix ix_tup (pv 0) pe_int (fun _ _ => rfl)) pe_str (nomark _)) (pw_and1 (pt_cmpR op_in_seq (pe_ix ix_tup (pe_ix ix_tup (pv 0) pe_int (fun _ _ => rfl)) pe_int (fun _ _ => rfl)) (pe_tupS (pa_cons pe_str (pa_cons pe_str pa_nil))) (by rfl)))))
          (pss_one (ps_set (i := 1) scLe.nd rfl (.inl rfl) (pe_op op_add_str (pe_op op_add_str pe_str (pv 1)) pe_str))) pss_nil)
      (C8.pss_cut (ps_if (PW.pt (pw_or (pt_cmpR op_in_seq (pe_ix ix_tup (pe_ix ix_tup (pv 0) pe_int (fun _ _ => rfl)) pe_int (fun _ _ => rfl)) (pe_tupS (pa_cons pe_str (pa_cons pe_str pa_nil))) (by rfl)) (pw_or1 (PW.pt (pw_and (pt_cmpR op_eq (pe_ix ix_tup (pv 0) pe_int (fun _ _ => rfl)) pe_str (nomark _)) (pw_and1 (pt_cmpR op_eq (pe_ix ix_tup (pe_ix ix_tup (pv 0) pe_int (fun _ _ => rfl)) pe_int (fun _ _ => rfl)) pe_str (nomark _))))))))
          (pss_one (ps_set (i := 2) scLe.nd rfl (.inl rfl) (pe_op op_add_str (pe_op op_add_str pe_str (pv 2)) pe_str))) pss_nil)
      (pss_one (ps_ret (pe_op op_add_str (pe_op op_add_str (pe_op op_add_str (pe_op op_add_str (pv 1) pe_str) (pe_ix ix_tup (pv 0) pe_int (fun _ _ => rfl))) pe_str) (pv 2))))))))), ?_⟩
    cases t with
    | word w' =>
      obtain ⟨q0, rfl, e0⟩ := tr
      refine ⟨.ref q0, rfl, q0, _, 0, _, rfl, rfl, SqT.of e0, atI_nat (j := 0) rfl, rfl, _, rfl, ?_⟩
      exact iteT ⟨.ref q0, rfl, q0, _, 1, _, rfl, rfl, SqT.of e0, atI_nat (j := 1) rfl, q H (Same.refl H)⟩
    | road r t =>
      obtain ⟨q0, u, rfl, e0, tr⟩ := tr
      obtain ⟨e, rfl⟩ : ∃ e', e = e' + 1 := ⟨e - 1, by have : dep t + 1 ≤ e := hd'; omega⟩
      have hd2 : dep t ≤ e := by have : dep t + 1 ≤ e + 1 := hd'; omega
      have et : (lt (.road r t)) = r ++ "(" ++ lt t ++ ")" := rfl
      have c1 : ("(" : Str).length = 1 := by decide +kernel
      have c2 : (")" : Str).length = 1 := by decide +kernel
      have hl2 : r.length + 1 + (lt t).length + 1 ≤ 100000 := by
        rw [et, s_len, s_len, s_len, c1, c2] at hl
        exact hl
      refine ⟨.ref q0, rfl, q0, _, 0, _, rfl, rfl, SqT.of e0, atI_nat (j := 0) rfl, rfl, _, rfl, ?_⟩
      rw [show decide (V.str "of" = V.str "word") = false from by decide +kernel]
      refine iteF ⟨.ref q0, rfl, q0, _, 0, _, rfl, rfl, SqT.of e0, atI_nat (j := 0) rfl, rfl, _, rfl, ?_⟩
      rw [show decide (V.str "of" = V.str "of") = true from by decide +kernel]
      refine iteT ⟨.ref q0, rfl, q0, _, 1, _, rfl, rfl, SqT.of e0, atI_nat (j := 1) rfl, _, _, rfl, rfl, by rw [c1]; exact line6 (by omega), ?_⟩
      refine ⟨.ref q0, rfl, q0, _, 2, _, rfl, rfl, SqT.of e0, atI_nat (j := 2) rfl, u, t, rfl, tr, hsg, hd2, by omega, fun H1 s1 => ⟨_, _, rfl, rfl, by rw [s_len, c1]; exact line6 (by omega), _, _, rfl, rfl, by rw [s_len, s_len, c1, c2]; exact line6 (by omega), q H1 s1⟩⟩
    | bin g a b =>
      obtain ⟨q0, x, y, rfl, e0, ta, tb⟩ := tr
      obtain ⟨hg, ga, gb⟩ := hsg
      obtain ⟨e, rfl⟩ : ∃ e', e = e' + 1 := ⟨e - 1, by have : max (dep a) (dep b) + 1 ≤ e := hd'; omega⟩
      have hda : dep a ≤ e ∧ dep b ≤ e := by have : max (dep a) (dep b) + 1 ≤ e + 1 := hd'; omega
      have et : lt (.bin g a b) = par (decide (g = "&") && isL a) (lt a) ++ " " ++ g ++ " " ++ par (isL b || (decide (g = "&") && isA b)) (lt b) := rfl
      have c1 : (" " : Str).length = 1 := by decide +kernel
      have p1 : ("(" : Str).length = 1 := by decide +kernel
      have p2 : (")" : Str).length = 1 := by decide +kernel
      have l1 := par_len (decide (g = "&") && isL a) (lt a)
      have l2 := par_len (isL b || (decide (g = "&") && isA b)) (lt b)
      have hl2 : (par (decide (g = "&") && isL a) (lt a)).length + 1 + g.length + 1 + (par (isL b || (decide (g = "&") && isA b)) (lt b)).length ≤ 100000 := by
        rw [et, s_len, s_len, s_len, s_len, c1] at hl
        exact hl
      refine ⟨.ref q0, rfl, q0, _, 0, _, rfl, rfl, SqT.of e0, atI_nat (j := 0) rfl, rfl, _, rfl, ?_⟩
      rw [show decide (V.str g = V.str "word") = false from by rw [str_ne]; rcases hg with rfl | rfl | rfl <;> decide +kernel]
      refine iteF ⟨.ref q0, rfl, q0, _, 0, _, rfl, rfl, SqT.of e0, atI_nat (j := 0) rfl, rfl, _, rfl, ?_⟩
      rw [show decide (V.str g = V.str "of") = false from by rw [str_ne]; rcases hg with rfl | rfl | rfl <;> decide +kernel]
      refine iteF ⟨.ref q0, rfl, q0, _, 1, _, rfl, rfl, SqT.of e0, atI_nat (j := 1) rfl, x, a, rfl, ta, ga, hda.1, by omega, fun H1 s1 => ?_⟩
      have e1 := s1 _ _ e0
      refine ⟨.ref q0, rfl, q0, _, 2, _, rfl, rfl, SqT.of e1, atI_nat (j := 2) rfl, y, b, rfl, tb.mono (Tk.of s1), gb, hda.2, by omega, fun H2 s2 => ?_⟩
      have t2 := s1.trans s2
      obtain ⟨qa, ra, rfl, ea⟩ := ta.headO
      obtain ⟨qb, rb, rfl, eb⟩ := tb.headO
      refine ⟨fun σ H' => σ = [some (.ref q0), some (.str (par (decide (g = "&") && isL a) (lt a))), some (.str (lt b))] ∧ Same H H', ?_, ?_⟩
      · refine ⟨.ref q0, rfl, q0, _, 0, _, rfl, rfl, SqT.of (t2 _ _ e0), atI_nat (j := 0) rfl, rfl, _, rfl, ?_⟩
        rw [str_ne]
        cases hgd : decide (g = "&") with
        | false => exact iteF ⟨rfl, t2⟩
        | true =>
          refine iteT ⟨.ref q0, rfl, q0, _, 1, _, rfl, rfl, SqT.of (t2 _ _ e0), atI_nat (j := 1) rfl, qa, _, 0, .str (hdO a), rfl, rfl, SqT.of (t2 _ _ ea), atI_nat (j := 0) rfl, by show 2 ≤ 1000; decide, fun tt3 H3 s3 n3 e3 => ⟨tt3, _, rfl, .inr (SqT.of e3), rfl, rfl, ?_⟩⟩
          rw [show (if false = true then !inV (V.str (hdO a)) [V.str "|", V.str "-"] else inV (V.str (hdO a)) [V.str "|", V.str "-"]) = isL a from (inV_txt (hdO a) LOOSE).trans hdO_l]
          refine ⟨_, rfl, ?_⟩
          cases hla : isL a with
          | false => exact iteF ⟨rfl, t2.trans s3⟩
          | true =>
            rw [hgd, hla] at l1 hl2
            exact iteT ⟨.str (lt a), rfl, _, _, rfl, rfl, by rw [p1]; exact line6 (by omega), _, _, rfl, rfl, by rw [s_len, p1, p2]; exact line6 (by omega), rfl, t2.trans s3⟩
      rintro σ H3 ⟨rfl, t3⟩
      refine ⟨fun σ H' => σ = [some (.ref q0), some (.str (par (decide (g = "&") && isL a) (lt a))), some (.str (par (isL b || (decide (g = "&") && isA b)) (lt b)))] ∧ Same H H', ?_, ?_⟩
      · refine ⟨.ref q0, rfl, q0, _, 2, _, rfl, rfl, SqT.of (t3 _ _ e0), atI_nat (j := 2) rfl, qb, _, 0, .str (hdO b), rfl, rfl, SqT.of (t3 _ _ eb), atI_nat (j := 0) rfl, by show 2 ≤ 1000; decide, fun tt3 H4 s4 n4 e4 => ⟨tt3, _, rfl, .inr (SqT.of e4), rfl, rfl, ?_⟩⟩
        rw [show (if false = true then !inV (V.str (hdO b)) [V.str "|", V.str "-"] else inV (V.str (hdO b)) [V.str "|", V.str "-"]) = isL b from (inV_txt (hdO b) LOOSE).trans hdO_l]
        refine ⟨_, rfl, ?_⟩
        have t4 := t3.trans s4
        cases hlb : isL b with
        | true =>
          rw [hlb] at l2 hl2
          exact iteT (iteT ⟨.str (lt b), rfl, _, _, rfl, rfl, by rw [p1]; exact line6 (by omega), _, _, rfl, rfl, by rw [s_len, p1, p2]; exact line6 (by omega), rfl, t4⟩)
        | false =>
          refine iteF ⟨.ref q0, rfl, q0, _, 0, _, rfl, rfl, SqT.of (t4 _ _ e0), atI_nat (j := 0) rfl, rfl, _, rfl, ?_⟩
          rw [str_ne]
          cases hgd : decide (g = "&") with
          | false => exact iteF (iteF ⟨rfl, t4⟩)
          | true =>
            refine iteT ⟨.ref q0, rfl, q0, _, 2, _, rfl, rfl, SqT.of (t4 _ _ e0), atI_nat (j := 2) rfl, qb, _, 0, .str (hdO b), rfl, rfl, SqT.of (t4 _ _ eb), atI_nat (j := 0) rfl, rfl, _, rfl, ?_⟩
            rw [str_ne, hdO_a]
            cases hab : isA b with
            | false => exact iteF ⟨rfl, t4⟩
            | true =>
              rw [hgd, hab, hlb] at l2 hl2
              exact iteT ⟨.str (lt b), rfl, _, _, rfl, rfl, by rw [p1]; exact line6 (by omega), _, _, rfl, rfl, by rw [s_len, p1, p2]; exact line6 (by omega), rfl, t4⟩
      rintro σ H4 ⟨rfl, t4⟩
      refine ⟨_, rfl, _, _, rfl, rfl, by rw [c1]; exact line6 (by omega), .ref q0, rfl, q0, _, 0, _, rfl, rfl, SqT.of (t4 _ _ e0), atI_nat (j := 0) rfl, _, _, rfl, rfl, by rw [s_len, c1]; exact line6 (by omega), _, _, rfl, rfl, by rw [s_len, s_len, c1]; exact line6 (by omega), _, rfl, _, _, rfl, rfl, by rw [s_len, s_len, s_len, c1]; exact line6 (by omega), q H4 t4⟩
end
end AQ


set_option Elab.async false
set_option linter.all false
set_option maxRecDepth 100000
set_option maxHeartbeats 4000000
namespace FS
open PySem PySem.Spec PyProof.Rows L2 L2.FK
section
variable {X : Cx} {CX : CXT} {k : Nat} {f C : Addr} {fd : FuncData} {ps : List Str} {sp : Sp} {E : L2.St → XK} {x : Str} {p pos : Pos} {e : Expr} {es : List Expr} {t : TA}
/-- a new one of a class, where what its making lets out is told by the slots -/
def tMkE (C : Addr) (sp : Sp) (E : L2.St → XK) (t : TA) : TE := fun σ H Q => t σ H fun vs G =>
  ∀ q d, G q = none → G d = none → d ≠ q → sp (.ref q :: vs) (upd (upd G d (.own q)) q (.ins C d [])) (fun u G2 => u = .non ∧ Q (.ref q) G2) (E σ)
theorem pe_mkE (M : Mk X.K C f) (F : FnOk X.prog X.w X.K X.mg X.base CX k f fd ps sp) (room : Room (k + 1) X.A) (gl : Gl X x) (at_ : X.mg x = some (.ref C)) (bd : Binds X.K fd ps []) (out : ∀ σ, PassesAt CX X σ (E σ))
    (args : PA X (e :: es) t) (nd : (x == ("__debug__" : Str)) = false := by decide) (st : starEach (e :: es) X.env = (false, eval e X.env) :: starEach es X.env := by rfl)
    (pl : (backTo pos (starEach es X.env)).any (·.1) = false := by rfl) : PE X (.Call (.Name x p) (e :: es) [] pos) (tMkE C sp E t) := by
  constructor
  intro pins s σ H Q I h
  apply wpAny_Call_Name_kw
  refine ld_glob I gl at_ ?_ nd
  refine PySem.W.callWith_K (h₀ := X.base) I.ok.mod.kin M.kp (thn (args.run pos pins s σ H _ I h) ?_) st pl
  rintro us s1 ⟨vs, G, J, r, q⟩
  refine ⟨J.kIn, ?_⟩
  have here := q (s1.heap.objs.size + 1) s1.heap.objs.size (J.hok.fresh (Nat.le_succ _)) (J.hok.fresh Nat.le.refl) (Nat.ne_of_lt (Nat.lt_succ_self _))
  have J2 := Inv.made (C := C) J
  have r2 : Vals (V.ref (s1.heap.objs.size + 1) :: vs) (Value.ref (s1.heap.objs.size + 1) :: us) := .cons rfl r
  have len : (Value.ref (s1.heap.objs.size + 1) :: us).length = ps.length := r2.length.symm.trans (F.len _ _ _ _ here)
  have b := bd _ (Value.ref (s1.heap.objs.size + 1) :: us) J2.kIn (by rw [List.append_nil]; exact len)
  rw [List.append_nil] at b
  have run := F.run _ X.stack _ _ ⟨Value.ref (s1.heap.objs.size + 1) :: us, []⟩ _ _ _ (E σ) (room.make C us []) (J2.env0.make C us []) b r2 here
  refine wpAny_call (make_map (f := f) J.kIn M.makes M.init (beq_iff_eq.mp M.fn) (codeAny_mono run fun z s' o => ?_))
  match z, o with
  | .error er, o => exact out σ pins _ _ er s' J2 o
  | .ok (.ret u), o =>
    obtain ⟨v, G', J3, rv, ev, q3⟩ := J2.after o
    cases ev
    exact ⟨rv, V.ref (s1.heap.objs.size + 1), G', J3, rfl, q3⟩
  | .ok .next, o => exact o.elim
  | .ok .brk, o => exact o.elim
  | .ok .cont, o => exact o.elim
end
end FS

set_option Elab.async false
set_option linter.all false
set_option maxRecDepth 100000
set_option maxHeartbeats 4000000
/-! What the program says of a text; bent texts; the right place. -/
namespace AQ
open PySem PySem.Spec PyProof.Rows L2 L2.FK FS TX

def toldL (z : Str) : Option S → List V
  | none => []
  | some s => [.str "place", .int (plc z s)]
/-- what the program says of a value -/
def ToldIs (K : PySem.W.Frag) (H : Hp) (v : V) (xs : List V) : Prop := (∃ z, v = .str z ∧ z.length ≤ 100000 ∧ ((okT z = true ∧ z.length ≤ 200 ∧ ∃ o, Sc (cs z) 0 0 o ∧ xs = toldL z o) ∨ (okT z = true ∧ 200 < z.length ∧ xs = [.str "place", .int 200]) ∨ (okT z = false ∧ xs = [.str "place", .non]))) ∨
  ((∀ H', Same H H' → NoStr K H' v) ∧ xs = [.str "place", .non])
theorem okT_cut {z : Str} (h : okT z = true) (lo hi : Option Int) : okT (cutS z lo hi) = true := by
  unfold okT at h ⊢
  rw [List.all_eq_true] at h ⊢
  exact fun c hc => h c (List.mem_of_mem_drop (List.mem_of_mem_take hc))
theorem len_cut (z : Str) (lo hi : Option Int) : (cutS z lo hi).length ≤ z.length := by
  rw [← len_cps, ← len_cps]
  show (List.take _ (List.drop _ _)).length ≤ _
  rw [List.length_take, List.length_drop]
  omega
theorem okT_app' {a b : Str} (h1 : okT a = true) (h2 : okT b = true) : okT (a ++ b) = true := by
  unfold okT
  rw [cs_app, List.all_append]
  unfold okT at h1 h2
  rw [h1, h2]
  rfl
theorem sh_pl (n : Int) : SeqAt.shaped (.list [.str "place", .int n]) = true := by
  have e : PyData.strOk "place" = true := by decide +kernel
  simp [SeqAt.shaped, PyData.canLay0, PyData.canLayAll0, PyData.depth, PyData.depthAll, e]
theorem sh_no : SeqAt.shaped (.list [.str "place", .none]) = true := by
  have e : PyData.strOk "place" = true := by decide +kernel
  simp [SeqAt.shaped, PyData.canLay0, PyData.canLayAll0, PyData.depth, PyData.depthAll, e]
theorem sh_em : SeqAt.shaped (.list []) = true := by decide +kernel
def toldD (z : Str) : Option S → List PyData
  | none => []
  | some s => [.str "place", .int (plc z s)]
theorem dp_pl {K : PySem.W.Frag} {H : Hp} {l : Addr} {n : Int} (h : H l = some (.lst [.str "place", .int n])) : Dp K H (.ref l) (.list [.str "place", .int n]) := .lst (SqL.of h) (.cons (.str _) (.cons (.int _) .nil))
theorem dp_no {K : PySem.W.Frag} {H : Hp} {l : Addr} (h : H l = some (.lst [.str "place", .non])) : Dp K H (.ref l) (.list [.str "place", .none]) := .lst (SqL.of h) (.cons (.str _) (.cons .non .nil))
theorem dp_em {K : PySem.W.Frag} {H : Hp} {l : Addr} (h : H l = some (.lst [])) : Dp K H (.ref l) (.list []) := .lst (SqL.of h) .nil
section
variable {P : Program} {w : World} {K : PySem.W.Frag} {mg : Str → Option Value} {base : Heap} {CBQ CQ fBQ : Addr}
/-! ### _law_told -/
def spTold (K : PySem.W.Frag) : Sp := fun vs H Q _ => ∃ v xs, vs = [v] ∧ ToldIs K H v xs ∧ ∀ l H', Same H H' → H l = none → H' l = some (.lst xs) → Q (.ref l) H'
theorem scTo : FnScope ["_law_text", "error"] ["_law_text"] (defScope (sLw 4)) := ⟨rfl, rfl, rfl, by decide +kernel, rfl, by decide +kernel, by decide +kernel⟩
def tSuiteQ (CB a : Addr) (cls : Value) (d : Option Addr) : TS := tRet (tLstS (tCons (tC (.str "place")) (tCons (tXf a cls d CB "place" (tVar 1)) tNil)))
theorem ok_told {f fQ : Addr} {fd fdQ : FuncData} {kq D : Nat} (F : Fun K "_law_told" "_law_told" (sLw 4) f fd) (hD : 100 ≤ D) (U : EC K mg "BadQuestion" CBQ fBQ) (nPl : PySem.W.findIn K (.ref CBQ) "place" = some none) (te : PySem.W.exmOne K (.ref CBQ) (.ref CBQ) = some true)
    (GQ : FnOk P w K mg base (L2.CX P w) kq fQ fdQ ["self", "text"] (spQI K CBQ CQ D)) (bQ : Binds K fdQ ["self", "text"] []) (mQ : Mk K CQ fQ) (gQ : mg "Question" = some (.ref CQ)) : FnOk P w K mg base CX0 (kq + 2) f fd ["_law_text"] (spTold K) := by
  refine F.ok scTo (fun vs H Q E h => ?_) (fun cdv A0 outer s H vs Q E hr h => ?_)
  · obtain ⟨v, xs, rfl, _⟩ := h
    rfl
  · obtain ⟨v, xs, rfl, tl, q⟩ := h
    refine ⟨_, pss_cons (ps_try_as1 (i := 1) (tb := fun W => tDrop (tMkE CQ (spQI K CBQ CQ D) (WE W) (tCons (tVar 0) tNil))) (ts := tSuiteQ CBQ) rfl rfl scTo.nd rfl rfl ⟨rfl, by decide, Or.inl U.gC⟩
          (fun W pn xe tk _ => pss_one (ps_expr (by exact (pe_mkE mQ GQ hr rfl gQ bQ (fun σ => passAt tk σ) (by exact (pa_cons (pv 0) pa_nil))))))
          (fun a oe cls d pn hz hf => pss_one (ps_ret (by exact (pe_lstS (pa_cons pe_str (pa_cons (pe_xf U.xf nPl hz hf (pv 1)) pa_nil)))))))
      (pss_one (ps_ret (pe_lstS pa_nil))), ?_⟩
    refine ⟨v, rfl, fun x dx nx ndx ne => ?_⟩
    have s6 : Same H (upd (upd H dx (.own x)) x (.ins CQ dx [])) := fun b o e => by rw [upd_ne (ne_of_none e nx), upd_ne (ne_of_none e ndx)]; exact e
    have bad : ∀ {p : V} {d : Addr} {H' : Hp}, xs = [.str "place", p] → Same H H' → H' d = some (.xd [("place", p)]) → ∀ {D : Ends} {x0 y0 : Option V}, D.rt = Q → wAs1 K (.ref CBQ) 1 (tSuiteQ CBQ) D (.ref CBQ) (some d) [x0, y0] H' := fun {p d H'} ex s' e {D x0 y0} eD => ⟨te, fun a na =>
      ⟨.ref a, rfl, rfl, rfl, d, _, p, rfl, e, rfl, by show 2 ≤ 1000; decide, fun l H2 s2 n2 e2 => by
        show D.rt (.ref l) H2
        rw [eD]
        exact q l H2 (s'.trans s2) (same_none s' n2) (by rw [ex]; exact e2)⟩⟩
    refine ⟨x, dx, v, rfl, upd_same, ?_⟩
    rcases tl with ⟨z, rfl, hz, tl⟩ | ⟨ns, ex⟩
    · refine .inl ⟨z, rfl, hz, fun h1 h2 => ?_, fun h1 h2 d H' s' e => ?_, fun h1 d H' s' e => ?_⟩
      · obtain ⟨_, _, o, so, ex⟩ : okT z = true ∧ z.length ≤ 200 ∧ ∃ o, Sc (cs z) 0 0 o ∧ xs = toldL z o := by
          rcases tl with h | ⟨_, h, _⟩ | ⟨h, _⟩
          · exact h
          · omega
          · rw [h1] at h; cases h
        have lz : (cs z).length ≤ 200 := by rw [show (cs z).length = z.length from len_cps z]; exact h2
        obtain ⟨r, hr', a1, a2, a3⟩ := place_all (cs z)
        refine ⟨r, hr', fun t s' er ht => ?_, fun t s' er ht d H' s2 e => ?_, fun e er d H' s2 e2 => ?_⟩
        · obtain ⟨b1, b2, b3, b4⟩ := a1 t s' er ht
          have eo := so.det b1
          subst eo
          refine ⟨b2, by omega, by omega, fun H' o qa => ⟨rfl, by show 0 ≤ 1000; decide, fun l H2 s2 n2 e2 => ?_⟩⟩
          have s3 := Off.same s6 nx o
          exact q l H2 (s3.trans s2) (same_none s3 n2) (by rw [ex]; exact e2)
        · have eo := so.det (a2 t s' er ht)
          subst eo
          exact bad ex (s6.trans s2) e rfl
        · have eo := so.det (a3 e er)
          subst eo
          exact bad ex (s6.trans s2) e2 rfl
      · rcases tl with ⟨_, h, _⟩ | ⟨_, _, ex⟩ | ⟨h, _⟩
        · omega
        · exact bad ex (s6.trans s') e rfl
        · rw [h1] at h; cases h
      · rcases tl with ⟨h, _⟩ | ⟨h, _⟩ | ⟨_, ex⟩
        · rw [h1] at h; cases h
        · rw [h1] at h; cases h
        · exact bad ex (s6.trans s') e rfl
    · exact .inr ⟨ns _ s6, fun d H' s' e => bad ex (s6.trans s') e rfl⟩
/-! ### _law_bent -/
def SGN : Str := "abz.19()&|- A#_,~"
theorem sgn_at : ∀ i, i < 17 → ∃ c, SGN.cps.toList[i]? = some c ∧ okT ⟨#[c]⟩ = true := by
  have k : ∀ c ∈ SGN.cps.toList, okT ⟨#[c]⟩ = true := by decide +kernel
  have e : SGN.cps.toList.length = 17 := by decide +kernel
  exact fun i h => ⟨SGN.cps.toList[i]'(by rw [e]; exact h), List.getElem?_eq_getElem _, k _ (List.getElem_mem _)⟩
def spBent : Sp := fun vs H Q _ => ∃ (p : Addr) (z : Str), vs = [.ref p, .str z] ∧ LD.LAt p H ∧ okT z = true ∧ z.length ≤ 300 ∧ ∀ H' y, Off p H H' → LD.LAt p H' → okT y = true → y.length ≤ 2 * z.length + 1 → Q (.str y) H'
theorem scBe : FnScope ["_law_left_here", "_law_text", "_law_signs", "_law_spot", "_law_way", "_law_sign"] ["_law_left_here", "_law_text"] (defScope (sLw 9)) := ⟨rfl, rfl, rfl, by decide +kernel, rfl, by decide +kernel, by decide +kernel⟩
theorem ok_bent {f fD : Addr} {fd fdD : FuncData} (F : Fun K "_law_bent" "_law_bent" (sLw 9) f fd) (zl : mg "len" = none)
    (GD : FnOk P w K mg base CX0 1 fD fdD ["_law_left_here", "_law_most"] LD.spDraw) (bD : Binds K fdD ["_law_left_here", "_law_most"] []) (gD : mg "_law_draw" = some (.ref fD)) (kD : PySem.W.keepIn K (.ref fD) = true) : FnOk P w K mg base CX0 2 f fd ["_law_left_here", "_law_text"] spBent := by
  refine F.ok scBe (fun vs H Q E h => ?_) (fun cdv A outer s H vs Q E hr h => ?_)
  · obtain ⟨p, z, rfl, _⟩ := h
    rfl
  · obtain ⟨p, z, rfl, lp, oz, hz, q⟩ := h
    have hzs : z.length ≤ sizeLine := Nat.le_trans hz (by decide)
    refine ⟨_, pss_cons (ps_set (i := 2) scBe.nd rfl (.inl rfl) pe_str)
      (pss_cons (ps_set (i := 3) scBe.nd rfl (.inl rfl) (pe_call GD hr rfl gD kD bD .nil pass0 (pa_cons (pv 0) (pa_cons (pe_op op_add (pe_callB call_len_str (by rfl) zl PySem.boot_len (pa_cons (pv 1) pa_nil)) pe_int) pa_nil))))
      (pss_cons (ps_set (i := 4) scBe.nd rfl (.inl rfl) (pe_call GD hr rfl gD kD bD .nil pass0 (pa_cons (pv 0) (pa_cons pe_int pa_nil))))
      (pss_cons (ps_set (i := 5) scBe.nd rfl (.inl rfl) (pe_ix ix_str (pv 2) (pe_call GD hr rfl gD kD bD .nil pass0 (pa_cons (pv 0) (pa_cons pe_int pa_nil))) (fun _ _ => rfl)))
      (pss_cons (ps_if (pt_cmpR op_eq (pv 4) pe_int (nomark _)) (pss_one (ps_ret (pe_op op_add_str (pe_slice sl_str (pv 1) po_none (po_some (pv 3))) (pe_slice sl_str (pv 1) (po_some (pe_op op_add (pv 3) pe_int)) po_none)))) pss_nil)
      (pss_cons (ps_if (pt_cmpR op_eq (pv 4) pe_int (nomark _)) (pss_one (ps_ret (pe_op op_add_str (pe_op op_add_str (pe_slice sl_str (pv 1) po_none (po_some (pv 3))) (pv 5)) (pe_slice sl_str (pv 1) (po_some (pv 3)) po_none)))) pss_nil)
      (pss_cons (ps_if (pt_cmpR op_eq (pv 4) pe_int (nomark _)) (pss_one (ps_ret (pe_op op_add_str (pe_op op_add_str (pe_slice sl_str (pv 1) po_none (po_some (pv 3))) (pv 5)) (pe_slice sl_str (pv 1) (po_some (pe_op op_add (pv 3) pe_int)) po_none)))) pss_nil)
      (pss_one (ps_ret (pe_slice sl_str (pv 1) po_none (po_some (pv 3))))))))))), ?_⟩
    refine ⟨.ref p, rfl, .str z, rfl, z, rfl, hzs, _, _, rfl, rfl, p, z.length + 1, rfl, by omega, by omega, lp, fun H1 sp o1 l1 hs => ?_⟩
    refine ⟨.ref p, rfl, p, 4, rfl, by decide, by decide, l1, fun H2 wy o2 l2 hw => ?_⟩
    refine ⟨.str SGN, rfl, .ref p, rfl, p, 17, rfl, by decide, by decide, l2, fun H3 g o3 l3 hg => ?_⟩
    obtain ⟨c, hc, okc⟩ := sgn_at g hg
    have o13 := (o1.trans o2).trans o3
    refine ⟨SGN, _, c, rfl, rfl, by decide +kernel, atI_nat hc, .int wy, rfl, rfl, _, rfl, ?_⟩
    have le := len_cut z
    have c1 : (⟨#[c]⟩ : Str).length = 1 := rfl
    have fit : ∀ {n : Nat}, n ≤ 1000 → n ≤ sizeLine := fun h => Nat.le_trans h (by decide)
    by_cases w0 : wy = 0
    · rw [show decide (V.int (wy : Int) = V.int 0) = true by rw [w0]; rfl]
      have a1 := le none (some (sp : Int))
      have a2 := le (some ((sp : Int) + 1)) none
      refine iteT ⟨.str z, rfl, .int sp, rfl, _, rfl, z, rfl, hzs, .str z, rfl, .int sp, rfl, _, _, rfl, rfl, _, rfl, z, rfl, hzs, _, _, rfl, rfl, fit (by omega), ?_⟩
      exact q H3 _ o13 l3 (okT_app' (okT_cut oz _ _) (okT_cut oz _ _)) (by rw [s_len]; omega)
    rw [show decide (V.int (wy : Int) = V.int 0) = false from decide_eq_false fun e => w0 (by have := V.int.inj e; omega)]
    refine iteF ⟨.int wy, rfl, rfl, _, rfl, ?_⟩
    by_cases w1 : wy = 1
    · rw [show decide (V.int (wy : Int) = V.int 1) = true by rw [w1]; rfl]
      have a1 := le none (some (sp : Int))
      have a2 := le (some (sp : Int)) none
      refine iteT ⟨.str z, rfl, .int sp, rfl, _, rfl, z, rfl, hzs, .str ⟨#[c]⟩, rfl, _, _, rfl, rfl, fit (by omega), .str z, rfl, .int sp, rfl, _, rfl, z, rfl, hzs, _, _, rfl, rfl, fit (by rw [s_len]; omega), ?_⟩
      exact q H3 _ o13 l3 (okT_app' (okT_app' (okT_cut oz _ _) okc) (okT_cut oz _ _)) (by rw [s_len, s_len]; omega)
    rw [show decide (V.int (wy : Int) = V.int 1) = false from decide_eq_false fun e => w1 (by have := V.int.inj e; omega)]
    refine iteF ⟨.int wy, rfl, rfl, _, rfl, ?_⟩
    by_cases w2 : wy = 2
    · rw [show decide (V.int (wy : Int) = V.int 2) = true by rw [w2]; rfl]
      have a1 := le none (some (sp : Int))
      have a2 := le (some ((sp : Int) + 1)) none
      refine iteT ⟨.str z, rfl, .int sp, rfl, _, rfl, z, rfl, hzs, .str ⟨#[c]⟩, rfl, _, _, rfl, rfl, fit (by omega), .str z, rfl, .int sp, rfl, _, _, rfl, rfl, _, rfl, z, rfl, hzs, _, _, rfl, rfl, fit (by rw [s_len]; omega), ?_⟩
      exact q H3 _ o13 l3 (okT_app' (okT_app' (okT_cut oz _ _) okc) (okT_cut oz _ _)) (by rw [s_len, s_len]; omega)
    rw [show decide (V.int (wy : Int) = V.int 2) = false from decide_eq_false fun e => w2 (by have := V.int.inj e; omega)]
    have a1 := le none (some (sp : Int))
    exact iteF ⟨.str z, rfl, .int sp, rfl, _, rfl, z, rfl, hzs, q H3 _ o13 l3 (okT_cut oz _ _) (by omega)⟩
/-! ### _law_right -/
def spRg : Sp := fun vs H Q _ => ∃ z, vs = [.str z] ∧ okT z = true ∧ z.length ≤ 600 ∧ ∀ H', Same H H' → Q (.bl true) H'
theorem scRg : FnScope ["_law_text", "_law_due"] ["_law_text"] (defScope (sLw 10)) := ⟨rfl, rfl, rfl, by decide +kernel, rfl, by decide +kernel, by decide +kernel⟩
theorem eqr (d : PyData) (h : SeqAt.shaped d = true) : PyData.eqv d d = true := SeqAt.eqv_refl d (SeqAt.canLay_of_shaped h)
theorem ok_right {f fT fP : Addr} {fd fdT fdP : FuncData} {kt : Nat} (F : Fun K "_law_right" "_law_right" (sLw 10) f fd) (zl : mg "len" = none) (hk : 3 ≤ kt)
    (GT : FnOk P w K mg base CX0 kt fT fdT ["_law_text"] (spTold K)) (bT : Binds K fdT ["_law_text"] []) (gT : mg "_law_told" = some (.ref fT)) (kT : PySem.W.keepIn K (.ref fT) = true)
    (GP : FnOk P w K mg base CX0 3 fP fdP ["_law_text"] spPl) (bP : Binds K fdP ["_law_text"] []) (gP : mg "_law_place" = some (.ref fP)) (kP : PySem.W.keepIn K (.ref fP) = true) : FnOk P w K mg base CX0 (kt + 1) f fd ["_law_text"] spRg := by
  refine F.ok scRg (fun vs H Q E h => ?_) (fun cdv A outer s H vs Q E hr h => ?_)
  · obtain ⟨z, rfl, _⟩ := h
    rfl
  · obtain ⟨z, rfl, oz, hz, q⟩ := h
    have hrp : Room 3 _ := hr.mono hk
    have hzs : z.length ≤ sizeLine := Nat.le_trans hz (by decide)
    refine ⟨_, pss_cons (ps_set (i := 1) scRg.nd rfl (.inl rfl) (pe_call GP hrp rfl gP kP bP .nil pass0 (pa_cons (pv 0) pa_nil)))
      (pss_cons (ps_if (pt_cmpR op_gt (pe_callB call_len_str (by rfl) zl PySem.boot_len (pa_cons (pv 0) pa_nil)) pe_int (nomark _)) (pss_one (ps_ret (pe_cmpR (op_eqD hr.units) (pe_call GT hr rfl gT kT bT .nil pass0 (pa_cons (pv 0) pa_nil)) (pe_lstS (pa_cons pe_str (pa_cons pe_int pa_nil))) (nomark _)))) pss_nil)
      (pss_one (ps_ret (pe_cmpR (op_eqD hr.units) (pe_call GT hr rfl gT kT bT .nil pass0 (pa_cons (pv 0) pa_nil)) (pe_ifExp (pt_cmpR op_isN (pv 1) pe_non (nomark _)) (pe_lstS pa_nil) (pe_lstS (pa_cons pe_str (pa_cons (pv 1) pa_nil)))) (nomark _))))), ?_⟩
    obtain ⟨o, so⟩ := Sc.ex (cs z)
    refine ⟨.str z, rfl, z, o, rfl, hz, so, fun H1 s1 => ?_⟩
    refine ⟨.str z, rfl, z, rfl, hzs, _, _, rfl, rfl, _, rfl, ?_⟩
    by_cases h2 : 200 < z.length
    · rw [show decide ((z.length : Int) > 200) = true from decide_eq_true (by omega)]
      refine iteT ⟨.str z, rfl, .str z, _, rfl, .inl ⟨z, rfl, by omega, .inr (.inl ⟨oz, h2, rfl⟩)⟩, fun l H2 s2 n2 e2 => ⟨by show 2 ≤ 1000; decide, fun l3 H3 s3 n3 e3 => ?_⟩⟩
      refine ⟨_, _, dp_pl (s3 _ _ e2), dp_pl e3, sh_pl _, sh_pl _, ?_⟩
      rw [eqr _ (sh_pl _)]
      exact q H3 ((s1.trans s2).trans s3)
    · rw [show decide ((z.length : Int) > 200) = false from decide_eq_false (by omega)]
      refine iteF ⟨.str z, rfl, .str z, _, rfl, .inl ⟨z, rfl, by omega, .inl ⟨oz, by omega, o, so, rfl⟩⟩, fun l H2 s2 n2 e2 => ⟨plV z o, rfl, rfl, _, rfl, ?_⟩⟩
      cases o with
      | none =>
        refine iteT ⟨by show 0 ≤ 1000; decide, fun l3 H3 s3 n3 e3 => ?_⟩
        refine ⟨_, _, dp_em (s3 _ _ e2), dp_em e3, sh_em, sh_em, ?_⟩
        rw [eqr _ sh_em]
        exact q H3 ((s1.trans s2).trans s3)
      | some s' =>
        refine iteF ⟨.int (plc z s'), rfl, by show 2 ≤ 1000; decide, fun l3 H3 s3 n3 e3 => ?_⟩
        refine ⟨_, _, dp_pl (s3 _ _ e2), dp_pl e3, sh_pl _, sh_pl _, ?_⟩
        rw [eqr _ (sh_pl _)]
        exact q H3 ((s1.trans s2).trans s3)
end
end AQ

set_option Elab.async false
set_option linter.all false
set_option maxRecDepth 100000
set_option maxHeartbeats 4000000
/-! The law. -/
namespace AQ
open PySem PySem.Spec PyProof.Rows L2 L2.FK FS TX
theorem okT_app (a b : Str) : okT (a ++ b) = (okT a && okT b) := by
  unfold okT
  rw [cs_app, List.all_append]
theorem inW_ok : ∀ c, inW c = true → okC c = true := by
  intro c h
  unfold inW at h
  have k1 : ∀ c ∈ LET.cps.toList, okC c = true := by decide +kernel
  have k2 : ∀ c ∈ DIG.cps.toList, okC c = true := by decide +kernel
  rcases Bool.or_eq_true_iff.mp h with h | h
  · exact k1 c (of_decide_eq_true h)
  · rcases Bool.or_eq_true_iff.mp h with h | h
    · exact k2 c (of_decide_eq_true h)
    · have : c = 46 := by simpa using h
      subst this
      decide +kernel
theorem okT_word {w : Str} (h : w.cps.toList.all inW = true) : okT w = true := by
  unfold okT
  rw [List.all_eq_true] at h ⊢
  exact fun c hc => inW_ok c (h c hc)
theorem okT_par {b : Bool} {z : Str} (h : okT z = true) : okT (par b z) = true := by
  unfold par
  cases b with
  | true =>
    rw [if_pos rfl, okT_app, okT_app, h, show okT "(" = true by decide +kernel, show okT ")" = true by decide +kernel]
    rfl
  | false => rw [if_neg (by simp)]; exact h
theorem lt_ok : ∀ {t : Tr}, Ok t → okT (lt t) = true
  | .word w, o => okT_word o.2.1
  | .road r t, o => by
    show okT (r ++ "(" ++ lt t ++ ")") = true
    rw [okT_app, okT_app, okT_app, okT_word o.2.1, lt_ok o.2.2.2, show okT "(" = true by decide +kernel, show okT ")" = true by decide +kernel]
    rfl
  | .bin g a b, o => by
    have gk : okT g = true := by rcases o.1 with rfl | rfl | rfl <;> decide +kernel
    show okT (par (decide (g = "&") && isL a) (lt a) ++ " " ++ g ++ " " ++ par (isL b || (decide (g = "&") && isA b)) (lt b)) = true
    rw [okT_app, okT_app, okT_app, okT_app, okT_par (lt_ok o.2.1), okT_par (lt_ok o.2.2), gk, show okT " " = true by decide +kernel]
    rfl

theorem lt_short : ∀ {t : Tr}, Ok t → Sm t → (lt t).length + 7 ≤ 15 * 2 ^ dep t
  | .word w, _, sm => by
    have : w.length ≤ 8 := sm
    show w.length + 7 ≤ 15 * 2 ^ 0
    omega
  | .road r t, o, sm => by
    have ih := lt_short o.2.2.2 sm.2
    have h1 : r.length ≤ 8 := sm.1
    have e1 : ("(" : Str).length = 1 := by decide +kernel
    have e2 : (")" : Str).length = 1 := by decide +kernel
    have p : 1 ≤ 2 ^ dep t := Nat.one_le_two_pow
    show (r ++ "(" ++ lt t ++ ")").length + 7 ≤ 15 * 2 ^ (dep t + 1)
    rw [s_len, s_len, s_len, e1, e2, Nat.pow_succ]
    omega
  | .bin g a b, o, sm => by
    have ia := lt_short o.2.1 sm.1
    have ib := lt_short o.2.2 sm.2
    have ma : 2 ^ dep a ≤ 2 ^ max (dep a) (dep b) := Nat.pow_le_pow_right (by decide) (Nat.le_max_left _ _)
    have mb : 2 ^ dep b ≤ 2 ^ max (dep a) (dep b) := Nat.pow_le_pow_right (by decide) (Nat.le_max_right _ _)
    have g1 : g.length = 1 := by rcases o.1 with rfl | rfl | rfl <;> decide +kernel
    have e1 : (" " : Str).length = 1 := by decide +kernel
    have p1 := par_len (decide (g = "&") && isL a) (lt a)
    have p2 := par_len (isL b || (decide (g = "&") && isA b)) (lt b)
    show (par (decide (g = "&") && isL a) (lt a) ++ " " ++ g ++ " " ++ par (isL b || (decide (g = "&") && isA b)) (lt b)).length + 7 ≤ 15 * 2 ^ (max (dep a) (dep b) + 1)
    rw [s_len, s_len, s_len, s_len, e1, g1, Nat.pow_succ]
    omega
theorem lt_115 {t : Tr} (o : Ok t) (s : Sm t) (d : dep t ≤ 3) : (lt t).length ≤ 115 := by
  have h := lt_short o s
  have : 2 ^ dep t ≤ 2 ^ 3 := Nat.pow_le_pow_right (by decide) d
  omega
theorem okT_mul {z : Str} (h : okT z = true) (n : Nat) : okT (Txt.mul z n) = true := by
  unfold okT at h ⊢
  rw [show cs (Txt.mul z n) = (List.replicate n (cs z)).flatten from mul_cs z n, List.all_eq_true]
  intro c hc
  obtain ⟨l, hl, hc⟩ := List.mem_flatten.mp hc
  rw [List.eq_of_mem_replicate hl] at hc
  exact List.all_eq_true.mp h c hc
theorem len_mul (z : Str) (n : Nat) : (Txt.mul z n).length = n * z.length := by
  rw [← len_cps, ← len_cps, mul_cs, List.length_flatten, List.map_replicate, List.sum_replicate_nat]
section
variable {P : Program} {w : World} {K : PySem.W.Frag} {mg : Str → Option Value} {base : Heap} {CBQ CQ : Addr}
def spTree3 : Sp := fun vs H Q E => ∃ e, 1 ≤ e ∧ e ≤ 3 ∧ spTree e vs H Q E
theorem tree3 {f : Addr} {fd : FuncData} {k : Nat} {ps : List Str} (h : ∀ e, 1 ≤ e → e ≤ 3 → FnOk P w K mg base CX0 k f fd ps (spTree e)) : FnOk P w K mg base CX0 k f fd ps spTree3 :=
  ⟨fun vs H Q E ⟨e, h1, h2, s⟩ => (h e h1 h2).len vs H Q E s, fun A outer s H args us vs Q E hr he hb hv ⟨e, h1, h2, s2⟩ => (h e h1 h2).run A outer s H args us vs Q E hr he hb hv s2⟩
abbrev nmW : List Str := ["_law_script", "_law_left_here", "_law_names", "_law_turn", "_law_text", "_law_many", "_law_longer", "_law_odd"]
def spLaw (K : PySem.W.Frag) : Sp := fun vs H Q _ => ∃ (a : Addr) (ns : List Int), vs = [.ref a] ∧ SqL K H a (ns.map V.int) ∧ ns.length ≤ 63 ∧ ∀ H', Q (.bl true) H'
theorem scLaw : FnScope nmW ["_law_script"] (defScope (sLw 11)) := ⟨rfl, rfl, rfl, by decide +kernel, rfl, by decide +kernel, by decide +kernel⟩
theorem l_all : ("all" : Str).length = 3 ∧ ("(" : Str).length = 1 ∧ (")" : Str).length = 1 ∧ ("leads(" : Str).length = 6 ∧ (" " : Str).length = 1 ∧ ("&" : Str).length = 1 := by decide +kernel
theorem o_all : okT "all" = true ∧ okT "(" = true ∧ okT ")" = true ∧ okT "leads(" = true ∧ okT " " = true ∧ okT "&" = true := by decide +kernel
theorem sc_b2 : Sc (cs "m.b2") 0 0 none := by
  have e : cs "m.b2" = [109, 46, 98, 50] := by decide +kernel
  rw [e]
  exact .step (s' := []) (k' := 0) (w' := 2) (by decide +kernel) .done
theorem ns_of {K : PySem.W.Frag} {H : Hp} {v : V} {T : String} (t : TyX K H v (.type T)) (h : kitB T "str" = some false) : NoStr K H v := ⟨_, t, kit_ty h⟩
theorem ok_law {f fLf fD fTr fLe fT fB fR : Addr} {fd fdLf fdD fdTr fdLe fdT fdB fdR : FuncData} {kt : Nat} (F : Fun K "law" "law" (sLw 11) f fd) (zr : mg "range" = none) (zl : mg "len" = none) (hk : 10 ≤ kt)
    (GLf : FnOk P w K mg base CX0 1 fLf fdLf ["_law_script"] (LD.spLeft K)) (bLf : Binds K fdLf ["_law_script"] []) (gLf : mg "_law_left" = some (.ref fLf)) (kLf : PySem.W.keepIn K (.ref fLf) = true)
    (GD : FnOk P w K mg base CX0 1 fD fdD ["_law_left_here", "_law_most"] LD.spDraw) (bD : Binds K fdD ["_law_left_here", "_law_most"] []) (gD : mg "_law_draw" = some (.ref fD)) (kD : PySem.W.keepIn K (.ref fD) = true)
    (GTr : FnOk P w K mg base CX0 5 fTr fdTr ["_law_left_here", "_law_names", "_law_deep"] spTree3) (bTr : Binds K fdTr ["_law_left_here", "_law_names", "_law_deep"] []) (gTr : mg "_law_tree" = some (.ref fTr)) (kTr : PySem.W.keepIn K (.ref fTr) = true)
    (GL : FnOk P w K mg base CX0 5 fLe fdLe ["_law_tree_here"] (spLeast 3)) (bL : Binds K fdLe ["_law_tree_here"] []) (gL : mg "_law_least_text" = some (.ref fLe)) (kL : PySem.W.keepIn K (.ref fLe) = true)
    (GT : FnOk P w K mg base CX0 kt fT fdT ["_law_text"] (spTold K)) (bT : Binds K fdT ["_law_text"] []) (gT : mg "_law_told" = some (.ref fT)) (kT : PySem.W.keepIn K (.ref fT) = true)
    (GB : FnOk P w K mg base CX0 2 fB fdB ["_law_left_here", "_law_text"] spBent) (bB : Binds K fdB ["_law_left_here", "_law_text"] []) (gB : mg "_law_bent" = some (.ref fB)) (kB : PySem.W.keepIn K (.ref fB) = true)
    (GR : FnOk P w K mg base CX0 (kt + 1) fR fdR ["_law_text"] spRg) (bR : Binds K fdR ["_law_text"] []) (gR : mg "_law_right" = some (.ref fR)) (kR : PySem.W.keepIn K (.ref fR) = true) :
    FnOk P w K mg base CX0 (kt + 2) f fd ["_law_script"] (spLaw K) := by
  refine F.ok scLaw (fun vs H Q E h => ?_) (fun cdv A0 outer s H vs Q E hr h => ?_)
  · obtain ⟨a, ns, rfl, _⟩ := h
    rfl
  · obtain ⟨a, ns, rfl, hS, hlen, q⟩ := h
    have hr1 : Room 1 _ := hr.mono (by omega)
    have hr2 : Room 2 _ := hr.mono (by omega)
    have hrr : Room 5 _ := hr.mono (by omega)
    have hrl : Room 5 _ := hr.mono (by omega)
    have hrt : Room kt _ := hr.mono (by omega)
    have fit : ∀ {n : Nat}, n ≤ 1000 → n ≤ sizeLine := fun h => Nat.le_trans h (by decide)
    obtain ⟨n1, n2, n3, n4, n5, n6⟩ := l_all
    obtain ⟨k1, k2, k3, k4, k5, k6⟩ := o_all
    refine ⟨_, pss_cons (ps_set (i := 1) scLaw.nd rfl (.inl rfl) (pe_call GLf hr1 rfl gLf kLf bLf .nil pass0 (pa_cons (pv 0) pa_nil)))
      (pss_cons (ps_set (i := 2) scLaw.nd rfl (.inl rfl) (pe_lstS (pa_cons pe_str (pa_cons pe_str (pa_cons pe_str (pa_cons pe_str pa_nil))))))
      (pss_cons (ps_for PassesOwn.never rfl (pi_range1 (by rfl) zr (pa_cons pe_int pa_nil)) (pg_name (i := 3) scLaw.nd rfl (Or.inl rfl))
      (pss_cons (ps_set (i := 4) scLaw.nd rfl (.inl rfl) (pe_call GB hr2 rfl gB kB bB .nil pass0 (pa_cons (pv 1) (pa_cons (pe_call GL hrl rfl gL kL bL .nil pass0 (pa_cons (pe_call GTr hrr rfl gTr kTr bTr .nil pass0 (pa_cons (pv 1) (pa_cons (pv 2) (pa_cons (pe_op op_add pe_int (pe_call GD hr1 rfl gD kD bD .nil pass0 (pa_cons (pv 1) (pa_cons pe_int pa_nil)))) pa_nil)))) pa_nil)) pa_nil))))
      (pss_one (ps_if (PW.pt (pw_or (pt_not (pt_val (pe_call GR hr rfl gR kR bR .nil pass0 (pa_cons (pv 4) pa_nil)))) (pw_or1 (pt_not (pt_val (pe_call GR hr rfl gR kR bR .nil pass0 (pa_cons (pe_call GB hr2 rfl gB kB bB .nil pass0 (pa_cons (pv 1) (pa_cons (pv 4) pa_nil))) pa_nil))))))) (pss_one (ps_ret pe_bl)) pss_nil))))
      (pss_cons (ps_set (i := 5) scLaw.nd rfl (.inl rfl) (pe_op op_add pe_int (pe_call GD hr1 rfl gD kD bD .nil pass0 (pa_cons (pv 1) (pa_cons pe_int pa_nil)))))
      (pss_cons (ps_if (PW.pt (pw_or (pt_not (pt_val (pe_call GR hr rfl gR kR bR .nil pass0 (pa_cons (pe_op op_add_str (pe_op op_add_str (pe_op op_mulS pe_str (pv 5)) pe_str) (pe_op op_mulS pe_str (pv 5))) pa_nil)))) (pw_or1 (pt_not (pt_val (pe_call GR hr rfl gR kR bR .nil pass0 (pa_cons (pe_op op_add_str (pe_op op_add_str (pe_op op_mulS pe_str (pv 5)) pe_str) (pe_op op_mulS pe_str (pv 5))) pa_nil))))))) (pss_one (ps_ret pe_bl)) pss_nil)
      (pss_cons (ps_set (i := 6) scLaw.nd rfl (.inl rfl) (pe_op op_add_str pe_str (pe_op op_mulS pe_str (pe_op op_add pe_int (pe_call GD hr1 rfl gD kD bD .nil pass0 (pa_cons (pv 1) (pa_cons pe_int pa_nil)))))))
      (pss_cons (ps_if (PW.pt (pw_or (pt_not (pt_val (pe_call GR hr rfl gR kR bR .nil pass0 (pa_cons (pv 6) pa_nil)))) (pw_or1 (pt_not (pt_val (pe_call GR hr rfl gR kR bR .nil pass0 (pa_cons (pe_op op_add_str (pe_slice sl_str (pv 6) po_none (po_some pe_int)) (pe_op op_mulS pe_str (pe_call GD hr1 rfl gD kD bD .nil pass0 (pa_cons (pv 1) (pa_cons pe_int pa_nil))))) pa_nil))))))) (pss_one (ps_ret pe_bl)) pss_nil)
      (pss_cons (ps_set (i := 7) scLaw.nd rfl (.inl rfl) (pe_ix (r := rIxL K) ix_list (pe_lstS (pa_cons pe_non (pa_cons pe_int (pa_cons (pe_lstS (pa_cons pe_str pa_nil)) (pa_cons pe_str (pa_cons pe_str (pa_cons pe_str (pa_cons pe_dictS (pa_cons (pe_tupS (pa_cons pe_str pa_nil)) pa_nil))))))))) (pe_call GD hr1 rfl gD kD bD .nil pass0 (pa_cons (pv 1) (pa_cons pe_int pa_nil))) (fun _ _ => rfl)))
      (pss_one (ps_ret (pe_and (pe_cmpR (op_eqD hr.units) (pe_call GT hrt rfl gT kT bT .nil pass0 (pa_cons (pv 7) pa_nil)) (pe_lstS (pa_cons pe_str (pa_cons pe_non pa_nil))) (nomark _)) (pe_and (pe_cmpR (op_eqD hr.units) (pe_call GT hrt rfl gT kT bT .nil pass0 (pa_cons pe_str pa_nil)) (pe_lstS (pa_cons pe_str (pa_cons pe_int pa_nil))) (nomark _)) (pe_one (pe_cmpR (op_eqD hr.units) (pe_call GT hrt rfl gT kT bT .nil pass0 (pa_cons pe_str pa_nil)) (pe_lstS pa_nil) (nomark _)))))))))))))), ?_⟩
    refine ⟨.ref a, rfl, a, ns, rfl, hS, hlen, fun H1 p s1 np P1 => ?_⟩
    refine ⟨by show 4 ≤ 1000; decide, fun na H2 s2 n2' e2 => ?_⟩
    have e2 : H2 na = some (.lst (NMS.map V.str)) := e2
    have notp : ∀ {H : Hp} {x : Addr}, LD.LAt p H → H x = none → x ≠ p := fun l n z => by obtain ⟨ms, e9, _⟩ := l; rw [z, e9] at n; cases n
    have nap := notp P1 n2'
    refine ⟨6, rfl, by decide, by decide, ?_⟩
    refine for_range (fun i σ H' => ∃ y3 y4, σ = [some (.ref a), some (.ref p), some (.ref na), y3, y4, none, none, none] ∧ LD.LAt p H' ∧ H' na = some (.lst (NMS.map V.str))) ⟨_, _, rfl, P1.mono s2, e2⟩ ?turn ?done
    case turn =>
      rintro i σ H4 hi ⟨y3, y4, rfl, l4, e4⟩
      refine ⟨.ref p, rfl, .ref p, rfl, .ref na, rfl, .ref p, rfl, p, 3, rfl, by decide, by decide, l4, fun H5 r o5 l5 hr3 => ?_⟩
      have e5 := o5 _ _ nap e4
      refine ⟨_, _, rfl, rfl, 1 + r, by omega, by omega, p, na, rfl, l5, e5, nap, fun H6 v t o6 l6 tr ok sm dp => ?_⟩
      have e6 := o6 _ _ nap e5
      have dp3 : dep t ≤ 3 := by omega
      have ll := lt_115 ok sm dp3
      refine ⟨v, t, rfl, tr, ok.sg, dp3, by omega, fun H7 s7 => ?_⟩
      have e7 := s7 _ _ e6
      refine ⟨p, lt t, rfl, l6.mono s7, lt_ok ok, by omega, fun H8 y o8 l8 oy ly => ?_⟩
      have e8 := o8 _ _ nap e7
      refine ⟨.str y, rfl, y, rfl, oy, by omega, fun H9 s9 => ⟨_, rfl, iteF ?_⟩⟩
      refine ⟨.ref p, rfl, .str y, rfl, p, y, rfl, l8.mono s9, oy, by omega, fun H10 y2 o10 l10 oy2 ly2 => ⟨y2, rfl, oy2, by omega, fun H11 s11 => ⟨_, rfl, iteF ?_⟩⟩⟩
      exact ⟨_, _, rfl, l10.mono s11, s11 _ _ (o10 _ _ nap (s9 _ _ e8))⟩
    case done =>
      rintro σ H4 ⟨y3, y4, rfl, l4, e4⟩
      refine ⟨.ref p, rfl, p, 5, rfl, by decide, by decide, l4, fun H5 m o5 l5 hm => ⟨_, _, rfl, rfl, ?_⟩⟩
      refine ⟨.int ((7 + m : Nat) : Int), rfl, "(", _, rfl, rfl, mulOk (by rw [n2]; omega) (by omega), _, _, rfl, rfl, fit (by rw [len_mul, n1, n2]; omega), .int ((7 + m : Nat) : Int), rfl, ")", _, rfl, rfl, mulOk (by rw [n3]; omega) (by omega), _, _, rfl, rfl, fit (by rw [s_len, len_mul, len_mul, n1, n2, n3]; omega), ?_⟩
      refine ⟨_, rfl, okT_app' (okT_app' (okT_mul k2 _) k1) (okT_mul k3 _), by rw [s_len, s_len, len_mul, len_mul, n1, n2, n3]; omega, fun H6 s6 => ⟨_, rfl, iteF ?_⟩⟩
      refine ⟨.int ((7 + m : Nat) : Int), rfl, "leads(", _, rfl, rfl, mulOk (by rw [n4]; omega) (by omega), _, _, rfl, rfl, fit (by rw [len_mul, n1, n4]; omega), .int ((7 + m : Nat) : Int), rfl, ")", _, rfl, rfl, mulOk (by rw [n3]; omega) (by omega), _, _, rfl, rfl, fit (by rw [s_len, len_mul, len_mul, n1, n4, n3]; omega), ?_⟩
      refine ⟨_, rfl, okT_app' (okT_app' (okT_mul k4 _) k1) (okT_mul k3 _), by rw [s_len, s_len, len_mul, len_mul, n1, n4, n3]; omega, fun H7 s7 => ⟨_, rfl, iteF ?_⟩⟩
      have l7 := (l5.mono s6).mono s7
      refine ⟨.ref p, rfl, p, 5, rfl, by decide, by decide, l7, fun H8 j o8 l8 hj => ⟨_, _, rfl, rfl, " ", ((196 + j : Nat) : Int), rfl, rfl, mulOk (by rw [n5]; omega) (by omega), _, _, rfl, rfl, fit (by rw [len_mul, n1, n5]; omega), ?_⟩⟩
      have ol : okT (("all" : Str) ++ Txt.mul " " ((196 + j : Nat) : Int)) = true := okT_app' k1 (okT_mul k5 _)
      have lol : (("all" : Str) ++ Txt.mul " " ((196 + j : Nat) : Int)).length ≤ 203 := by rw [s_len, len_mul, n1, n5]; omega
      generalize ("all" : Str) ++ Txt.mul " " ((196 + j : Nat) : Int) = lo at ol lol
      refine ⟨.str lo, rfl, lo, rfl, ol, by omega, fun H9 s9 => ⟨_, rfl, iteF ?_⟩⟩
      have cl := len_cut lo none (some 190)
      refine ⟨.str lo, rfl, _, rfl, lo, rfl, fit (by omega), .ref p, rfl, p, 15, rfl, by decide, by decide, l8.mono s9, fun H10 g o10 l10 hg => ⟨"&", (g : Int), rfl, rfl, mulOk (by rw [n6]; omega) (by omega), _, _, rfl, rfl, fit (by rw [len_mul, n6]; omega), ?_⟩⟩
      refine ⟨_, rfl, okT_app' (okT_cut ol _ _) (okT_mul k6 _), by rw [s_len, len_mul, n6]; omega, fun H11 s11 => ⟨_, rfl, iteF ?_⟩⟩
      have l11 := l10.mono s11
      refine ⟨by show 1 ≤ 1000; decide, fun b1 H12 s12 m12 e12 => fun b2 H13 s13 m13 e13 => ⟨by show 1 ≤ 1000; decide, fun b3 H14 s14 m14 e14 => ⟨by show 8 ≤ 1000; decide, fun ol' H15 s15 m15 e15 => ?_⟩⟩⟩
      have l12 := l11.mono s12
      have l13 := l12.mono s13
      have l14 := l13.mono s14
      have q1 := notp l11 m12
      have q2 := notp l12 m13
      have q3 := notp l13 m14
      have q4 := notp l14 m15
      refine ⟨.ref p, rfl, p, 8, rfl, by decide, by decide, l14.mono s15, fun H16 r o16 l16 hr8 => ?_⟩
      have f1 := o16 _ _ q1 (s15 _ _ (s14 _ _ (s13 _ _ e12)))
      have f2 := o16 _ _ q2 (s15 _ _ (s14 _ _ e13))
      have f3 := o16 _ _ q3 (s15 _ _ e14)
      have f4 := o16 _ _ q4 e15
      have pick : ∀ r, r < 8 → ∃ v, ([.non, .int 5, .ref b1, .str "al\nl", .str "all\n", .str "\tall", .ref b2, .ref b3] : List V)[r]? = some v ∧ ToldIs K H16 v [.str "place", .non] := by
        intro r hr
        match r, hr with
        | 0, _ => exact ⟨_, rfl, .inr ⟨fun H' s' => ns_of (T := "NoneType") (.base .non) (by decide +kernel), rfl⟩⟩
        | 1, _ => exact ⟨_, rfl, .inr ⟨fun H' s' => ns_of (T := "int") (.base (.int 5)) (by decide +kernel), rfl⟩⟩
        | 2, _ => exact ⟨_, rfl, .inr ⟨fun H' s' => ns_of (T := "list") (.base (.lst (s' _ _ f1))) (by decide +kernel), rfl⟩⟩
        | 3, _ => exact ⟨_, rfl, .inl ⟨"al\nl", rfl, by decide +kernel, .inr (.inr ⟨by decide +kernel, rfl⟩)⟩⟩
        | 4, _ => exact ⟨_, rfl, .inl ⟨"all\n", rfl, by decide +kernel, .inr (.inr ⟨by decide +kernel, rfl⟩)⟩⟩
        | 5, _ => exact ⟨_, rfl, .inl ⟨"\tall", rfl, by decide +kernel, .inr (.inr ⟨by decide +kernel, rfl⟩)⟩⟩
        | 6, _ => exact ⟨_, rfl, .inr ⟨fun H' s' => ns_of (T := "dict") (.base (.dK (s' _ _ f2))) (by decide +kernel), rfl⟩⟩
        | 7, _ => exact ⟨_, rfl, .inr ⟨fun H' s' => ns_of (T := "tuple") (.base (.tup (s' _ _ f3))) (by decide +kernel), rfl⟩⟩
      obtain ⟨v, hv, tv⟩ := pick r hr8
      refine ⟨ol', _, _, v, rfl, rfl, SqL.of f4, atI_nat hv, ?_⟩
      refine ⟨v, rfl, v, _, rfl, tv, fun l H17 s17 m17 e17 => ⟨by show 2 ≤ 1000; decide, fun l3 H18 s18 m18 e18 => ⟨_, _, dp_no (s18 _ _ e17), dp_no e18, sh_no, sh_no, ?_⟩⟩⟩
      rw [eqr _ sh_no]
      refine ⟨_, rfl, iteT ?_⟩
      refine ⟨.str "", [.str "place", .int 0], rfl, .inl ⟨"", rfl, by decide +kernel, .inl ⟨by decide +kernel, by decide +kernel, some [], by rw [c0]; exact .end_ (by decide), by decide +kernel⟩⟩, fun l H19 s19 m19 e19 => ⟨by show 2 ≤ 1000; decide, fun l3 H20 s20 m20 e20 => ⟨_, _, dp_pl (s20 _ _ e19), dp_pl e20, sh_pl _, sh_pl _, ?_⟩⟩⟩
      rw [eqr _ (sh_pl _)]
      refine ⟨_, rfl, iteT ?_⟩
      refine ⟨.str "m.b2", [], rfl, .inl ⟨"m.b2", rfl, by decide +kernel, .inl ⟨by decide +kernel, by decide +kernel, none, sc_b2, rfl⟩⟩, fun l H21 s21 m21 e21 => ⟨by show 0 ≤ 1000; decide, fun l3 H22 s22 m22 e22 => ⟨_, _, dp_em (s22 _ _ e21), dp_em e22, sh_em, sh_em, ?_⟩⟩⟩
      rw [eqr _ sh_em]
      exact q H22
end
end AQ

set_option Elab.async false
set_option linter.all false
set_option maxRecDepth 100000
set_option maxHeartbeats 4000000
/-! The defs that call themselves, to the depth that is needed. -/
namespace AQ
open PySem PySem.Spec PyProof.Rows L2 L2.FK FS TX
section
variable {P : Program} {w : World} {K : PySem.W.Frag} {mg : Str → Option Value} {base : Heap} {aWO aRD aLS aSG CPt CBQ : Addr}
theorem readers {fI fS fT fL fE fV fG fF : Addr} {fdI fdS fdT fdL fdE fdV fdG fdF : FuncData} (T : TQ K mg aWO aRD aLS aSG CPt)
    (FI : Fun K "read_inside" "read_inside" (sAsk 4) fI fdI) (bI : Binds K fdI ["parts"] []) (gI : mg "read_inside" = some (.ref fI)) (kI : PySem.W.keepIn K (.ref fI) = true)
    (FS : Fun K "read_single" "read_single" (sAsk 3) fS fdS) (bS : Binds K fdS ["parts"] []) (gS : mg "read_single" = some (.ref fS)) (kS : PySem.W.keepIn K (.ref fS) = true)
    (FT : Fun K "read_tight" "read_tight" (sAsk 5) fT fdT) (bT : Binds K fdT ["parts"] []) (gT : mg "read_tight" = some (.ref fT)) (kT : PySem.W.keepIn K (.ref fT) = true)
    (FL : Fun K "read_loose" "read_loose" (sAsk 6) fL fdL) (bL : Binds K fdL ["parts"] []) (gL : mg "read_loose" = some (.ref fL)) (kL : PySem.W.keepIn K (.ref fL) = true)
    (GE : FnOk P w K mg base (L2.CX P w) 4 fE fdE ["self"] (spEnter CPt CBQ)) (bE : Binds K fdE ["self"] []) (mE : Meth K CPt "enter" fE)
    (GV : FnOk P w K mg base (L2.CX P w) 4 fV fdV ["self"] (spLeave CPt CBQ)) (bV : Binds K fdV ["self"] []) (mV : Meth K CPt "leave" fV)
    (GG : FnOk P w K mg base CX0 3 fG fdG ["self"] (spGoOn CPt)) (bG : Binds K fdG ["self"] []) (mG : Meth K CPt "go_on" fG)
    (GF : FnOk P w K mg base CX0 2 fF fdF ["word"] spFull) (bF : Binds K fdF ["word"] []) (gF : mg "is_full_name" = some (.ref fF)) (kF : PySem.W.keepIn K (.ref fF) = true) :
    ∀ n, FnOk P w K mg base (L2.CX P w) (5 + 4 * n) fI fdI ["parts"] (spRd CPt CBQ Ins n) ∧ FnOk P w K mg base (L2.CX P w) (8 + 4 * n) fL fdL ["parts"] (spRd CPt CBQ Lo n) := by
  have up : ∀ n, FnOk P w K mg base (L2.CX P w) (5 + 4 * n) fI fdI ["parts"] (spRd CPt CBQ Ins n) → FnOk P w K mg base (L2.CX P w) (8 + 4 * n) fL fdL ["parts"] (spRd CPt CBQ Lo n) := fun n GI => by
    have G1 := ok_single FS T (by omega) GG bG mG GF bF gF kF GI bI gI kI
    have G2 := ok_tight FT T (by omega) GG bG mG G1 bS gS kS
    have G3 := ok_loose FL T (by omega) GG bG mG G2 bT gT kT
    exact G3.mono (by omega)
  intro n
  induction n with
  | zero =>
    have G0 := ok_inside0 FI T GE bE mE
    exact ⟨G0, up 0 G0⟩
  | succ n ih =>
    have G0 := ok_insideS FI T (by omega) GE bE mE GV bV mV ih.2 bL gL kL
    have G1 := G0.mono (k := 5 + 4 * (n + 1)) (by omega)
    exact ⟨G1, up (n + 1) G1⟩
theorem textsT {fW fT : Addr} {fdW fdT : FuncData} (T : TQ K mg aWO aRD aLS aSG CPt)
    (FT : Fun K "tree_text" "tree_text" (sAsk 9) fT fdT) (bT : Binds K fdT ["tree"] []) (gT : mg "tree_text" = some (.ref fT)) (kT : PySem.W.keepIn K (.ref fT) = true)
    (FW : Fun K "within" "within" (sAsk 8) fW fdW) (bW : Binds K fdW ["tree", "signs"] []) (gW : mg "within" = some (.ref fW)) (kW : PySem.W.keepIn K (.ref fW) = true) :
    ∀ e, FnOk P w K mg base CX0 (1 + 2 * e) fT fdT ["tree"] (spTT e) := by
  intro e
  induction e with
  | zero => exact ok_tt0 FT
  | succ e ih =>
    have GW := ok_within FW ih bT gT kT
    have G := ok_ttS FT T ih bT gT kT GW bW gW kW
    exact G.mono (by omega)
theorem trees {fT fD : Addr} {fdT fdD : FuncData} (F : Fun K "_law_tree" "_law_tree" (sLw 2) fT fdT) (zl : mg "len" = none) (zi : mg "int" = none)
    (GD : FnOk P w K mg base CX0 1 fD fdD ["_law_left_here", "_law_most"] LD.spDraw) (bD : Binds K fdD ["_law_left_here", "_law_most"] []) (gD : mg "_law_draw" = some (.ref fD)) (kD : PySem.W.keepIn K (.ref fD) = true)
    (bT : Binds K fdT ["_law_left_here", "_law_names", "_law_deep"] []) (gT : mg "_law_tree" = some (.ref fT)) (kT : PySem.W.keepIn K (.ref fT) = true) : ∀ e, FnOk P w K mg base CX0 (e + 2) fT fdT ["_law_left_here", "_law_names", "_law_deep"] (spTree e) := by
  intro e
  induction e with
  | zero => exact ok_tree F (by omega) zl zi GD bD gD kD (ok_treeF F) bT gT kT
  | succ e ih => exact ok_tree F (by omega) zl zi GD bD gD kD (show FnOk P w K mg base CX0 (e + 2) fT fdT _ (spTreeP (e + 1)) from ih) bT gT kT
theorem leasts {fT : Addr} {fdT : FuncData} (F : Fun K "_law_least_text" "_law_least_text" (sLw 3) fT fdT)
    (bT : Binds K fdT ["_law_tree_here"] []) (gT : mg "_law_least_text" = some (.ref fT)) (kT : PySem.W.keepIn K (.ref fT) = true) : ∀ e, FnOk P w K mg base CX0 (e + 2) fT fdT ["_law_tree_here"] (spLeast e) := by
  intro e
  induction e with
  | zero => exact ok_least F (ok_leastF F) bT gT kT
  | succ e ih => exact ok_least F (show FnOk P w K mg base CX0 (e + 2) fT fdT _ (spLeastP (e + 1)) from ih) bT gT kT
end
end AQ

set_option Elab.async false
set_option linter.all false
set_option maxRecDepth 100000
set_option maxHeartbeats 8000000
namespace AQ
open PySem PySem.Spec PyProof.Rows L2 L2.FK FS TX
def entKey (e : DictEntry) : Option Str := match e.key with
  | .str x _ => some x
  | _ => none
def tFn (as : List Addr) (z : Str) : Addr := (((FORM.map Prod.fst).zip as).lookup z).getD 0
theorem find_none {z : Str} : ∀ {es : List DictEntry} {ks : List Str}, es.map entKey = ks.map some → ks.contains z = false → es.find? (·.key.isStr z) = none ∧ es.any (·.refKey) = false
  | [], [], _, _ => ⟨rfl, rfl⟩
  | e :: es, k :: ks, h, hz => by
    have h1 : entKey e = some k := by injection h
    have h2 : es.map entKey = ks.map some := by injection h
    rw [List.contains_cons, Bool.or_eq_false_iff] at hz
    obtain ⟨i1, i2⟩ := find_none h2 hz.2
    unfold entKey at h1
    split at h1
    · rename_i x t ek
      have ex : x = k := Option.some.inj h1
      subst ex
      have hne : (x == z) = false := by
        have := hz.1
        rw [Bool.beq_comm] at this
        exact this
      constructor
      · rw [List.find?_cons]
        have : e.key.isStr z = false := by rw [ek]; exact hne
        rw [this]
        exact i1
      · rw [List.any_cons, i2, Bool.or_false]
        unfold DictEntry.refKey
        rw [ek]
        try rfl
    · cases h1
theorem ns_none {K : PySem.W.Frag} {d : Addr} {es : Array DictEntry} {n : Nat} {oc : Value} {od : Option Addr} {sl : Array (Option Value)} {z : Str} {ks : List Str} (l : K.lookup d = some ⟨oc, od, .dict es n, sl⟩) (h : es.toList.map entKey = ks.map some) (hz : ks.contains z = false) : PySem.W.nsIn K d z = some none := by
  obtain ⟨h1, h2⟩ := find_none h hz
  unfold PySem.W.nsIn
  rw [l]
  show (match es.toList.find? (·.key.isStr z) with | some e => some (some e.val) | none => if es.toList.any (·.refKey) then none else some none) = _
  rw [h1]
  show (if es.toList.any (·.refKey) = true then none else some none) = _
  rw [h2]
  rfl
theorem exm_own {K : PySem.W.Frag} {C : Addr} (a : PySem.W.subIn K (.ref C) (.type "BaseException") = some true) (b : PySem.W.isClsIn K C = true) (c : PySem.W.typeIn K (.ref C) = some (.type "type")) (d : PySem.W.subIn K (.ref C) (.ref C) = some true) : PySem.W.exmOne K (.ref C) (.ref C) = some true := by
  have b' : (PySem.W.clsIn K C).isSome = true := b
  simp [PySem.W.exmOne, PySem.W.kitCls, a, b', c, d]
theorem kit_ownT {K : PySem.W.Frag} {C : Addr} {T : String} {b : Bool} (hd : PySem.W.hasDictIn K C = true) (ty : PySem.W.typeIn K (.ref C) = some (.type "type")) (h : PySem.W.subIn K (.type T) (.ref C) = some b) : PySem.W.kitOne K (.type T) (.ref C) = some b := by
  unfold PySem.W.kitOne
  have ne : ((Value.type T) == (Value.ref C)) = false := rfl
  rw [ne, if_neg Bool.false_ne_true]
  obtain ⟨cd, hc, _⟩ := PySem.W.any_some hd
  show (if ((PySem.W.clsIn K C).isSome && PySem.W.typeIn K (.ref C) == some (.type "type")) = true then PySem.W.subIn K (.type T) (.ref C) else none) = some b
  rw [if_pos (by rw [hc, ty] <;> rfl)]
  exact h
theorem kt_mk {K : PySem.W.Frag} {a : Addr} {xs : List V} {o : Obj} {its : Array Value} {n : Nat} (x : K.lookup a = some o) (y : o.cls = .type "tuple") (d : o.data = .seq its n) (s : its.size ≤ sizeLine) (v : Vals xs its.toList) : KT K a xs := ⟨o, its, n, x, y, d, s, v⟩
theorem all_mk {l : PySem.W.OpenLaw} {w : World} {K : PySem.W.Frag} {h : Heap} {mg : Str → Option Value} {fa aO aR aWO aRD aLS aSG dF g0 g1 g2 g3 g4 g5 g6 g7 g8 g9 g10 g11 fNm fFu fCT fIW fRS fRI fRT fRL fRQ fWi fTT fLLf fLDr fLTr fLLe fLTo fLNm fLKd fLWE fLPl fLBe fLRi fLa CBQ fBQ CPt fPI fPG fPO fPE fPL CQ fQI : Addr} (X : K.In h) (G : h.Ns mainGlobals mg) (hfa : mg "law" = some (.ref fa))
    {tLE : Tok}
    {tDI : Tok}
    {tL8 : Tok}
    {tLO : Tok}
    {tMO : Tok}
    {otOT : Obj} {itOT : Array Value} {nnOT : Nat}
    {otRE : Obj} {itRE : Array Value} {nnRE : Nat}
    {otWd : Obj} {itWd : Array Value} {nnWd : Nat}
    {otRd : Obj} {itRd : Array Value} {nnRd : Nat}
    {otLs : Obj} {itLs : Array Value} {nnLs : Nat}
    {otSg : Obj} {itSg : Array Value} {nnSg : Nat}
    {es : Array DictEntry} {nF : Nat}
    {of0 : Obj} {if0 : Array Value} {nf0 : Nat}
    {of1 : Obj} {if1 : Array Value} {nf1 : Nat}
    {of2 : Obj} {if2 : Array Value} {nf2 : Nat}
    {of3 : Obj} {if3 : Array Value} {nf3 : Nat}
    {of4 : Obj} {if4 : Array Value} {nf4 : Nat}
    {of5 : Obj} {if5 : Array Value} {nf5 : Nat}
    {of6 : Obj} {if6 : Array Value} {nf6 : Nat}
    {of7 : Obj} {if7 : Array Value} {nf7 : Nat}
    {of8 : Obj} {if8 : Array Value} {nf8 : Nat}
    {of9 : Obj} {if9 : Array Value} {nf9 : Nat}
    {of10 : Obj} {if10 : Array Value} {nf10 : Nat}
    {of11 : Obj} {if11 : Array Value} {nf11 : Nat}
    {ocNm kVNm dcNm pmNm cdNm ctNm : Value} {odNm anNm : Option Addr} {slNm : Array (Option Value)}
    {ocFu kVFu dcFu pmFu cdFu ctFu : Value} {odFu anFu : Option Addr} {slFu : Array (Option Value)}
    {ocCT kVCT dcCT pmCT cdCT ctCT : Value} {odCT anCT : Option Addr} {slCT : Array (Option Value)}
    {ocIW kVIW dcIW pmIW cdIW ctIW : Value} {odIW anIW : Option Addr} {slIW : Array (Option Value)}
    {ocRS kVRS dcRS pmRS cdRS ctRS : Value} {odRS anRS : Option Addr} {slRS : Array (Option Value)}
    {ocRI kVRI dcRI pmRI cdRI ctRI : Value} {odRI anRI : Option Addr} {slRI : Array (Option Value)}
    {ocRT kVRT dcRT pmRT cdRT ctRT : Value} {odRT anRT : Option Addr} {slRT : Array (Option Value)}
    {ocRL kVRL dcRL pmRL cdRL ctRL : Value} {odRL anRL : Option Addr} {slRL : Array (Option Value)}
    {ocRQ kVRQ dcRQ pmRQ cdRQ ctRQ : Value} {odRQ anRQ : Option Addr} {slRQ : Array (Option Value)}
    {ocWi kVWi dcWi pmWi cdWi ctWi : Value} {odWi anWi : Option Addr} {slWi : Array (Option Value)}
    {ocTT kVTT dcTT pmTT cdTT ctTT : Value} {odTT anTT : Option Addr} {slTT : Array (Option Value)}
    {ocLLf kVLLf dcLLf pmLLf cdLLf ctLLf : Value} {odLLf anLLf : Option Addr} {slLLf : Array (Option Value)}
    {ocLDr kVLDr dcLDr pmLDr cdLDr ctLDr : Value} {odLDr anLDr : Option Addr} {slLDr : Array (Option Value)}
    {ocLTr kVLTr dcLTr pmLTr cdLTr ctLTr : Value} {odLTr anLTr : Option Addr} {slLTr : Array (Option Value)}
    {ocLLe kVLLe dcLLe pmLLe cdLLe ctLLe : Value} {odLLe anLLe : Option Addr} {slLLe : Array (Option Value)}
    {ocLTo kVLTo dcLTo pmLTo cdLTo ctLTo : Value} {odLTo anLTo : Option Addr} {slLTo : Array (Option Value)}
    {ocLNm kVLNm dcLNm pmLNm cdLNm ctLNm : Value} {odLNm anLNm : Option Addr} {slLNm : Array (Option Value)}
    {ocLKd kVLKd dcLKd pmLKd cdLKd ctLKd : Value} {odLKd anLKd : Option Addr} {slLKd : Array (Option Value)}
    {ocLWE kVLWE dcLWE pmLWE cdLWE ctLWE : Value} {odLWE anLWE : Option Addr} {slLWE : Array (Option Value)}
    {ocLPl kVLPl dcLPl pmLPl cdLPl ctLPl : Value} {odLPl anLPl : Option Addr} {slLPl : Array (Option Value)}
    {ocLBe kVLBe dcLBe pmLBe cdLBe ctLBe : Value} {odLBe anLBe : Option Addr} {slLBe : Array (Option Value)}
    {ocLRi kVLRi dcLRi pmLRi cdLRi ctLRi : Value} {odLRi anLRi : Option Addr} {slLRi : Array (Option Value)}
    {ocLa kVLa dcLa pmLa cdLa ctLa : Value} {odLa anLa : Option Addr} {slLa : Array (Option Value)}
    {nxBQ qBQ : Str} {NBQ : Addr} {bsBQ bmBQ : List Value} {snBQ : List Str} {subBQ : List Value} {abBQ : Bool} {colBQ : Option Bool} {ddBQ : Option Addr} {m0BQ m1BQ m2BQ m3BQ m5BQ : Option Value}
    {ocBQ kVBQ dcBQ pmBQ cdBQ ctBQ : Value} {odBQ anBQ : Option Addr} {slBQ : Array (Option Value)}
    {ocPI kVPI dcPI pmPI cdPI ctPI : Value} {odPI anPI : Option Addr} {slPI : Array (Option Value)}
    {ocPG kVPG dcPG pmPG cdPG ctPG : Value} {odPG anPG : Option Addr} {slPG : Array (Option Value)}
    {ocPO kVPO dcPO pmPO cdPO ctPO : Value} {odPO anPO : Option Addr} {slPO : Array (Option Value)}
    {ocPE kVPE dcPE pmPE cdPE ctPE : Value} {odPE anPE : Option Addr} {slPE : Array (Option Value)}
    {ocPL kVPL dcPL pmPL cdPL ctPL : Value} {odPL anPL : Option Addr} {slPL : Array (Option Value)}
    {ocQI kVQI dcQI pmQI cdQI ctQI : Value} {odQI anQI : Option Addr} {slQI : Array (Option Value)}
    (aLE : PySem.W.nsIn K mainGlobals "LETTERS" = some (some (.str LET tLE)))
    (aDI : PySem.W.nsIn K mainGlobals "DIGITS" = some (some (.str DIG tDI)))
    (aL8 : PySem.W.nsIn K mainGlobals "LONGEST_NAME" = some (some (.int 8 tL8)))
    (aLO : PySem.W.nsIn K mainGlobals "LONGEST" = some (some (.int 200 tLO)))
    (aMO : PySem.W.nsIn K mainGlobals "MOST_OPEN" = some (some (.int 8 tMO)))
    (aOT : PySem.W.nsIn K mainGlobals "OTHER_WORDS" = some (some (.ref aO)))
    (xOT : K.lookup aO = some otOT) (yOT : otOT.cls = .type "tuple") (dOT : otOT.data = .seq itOT nnOT) (sOT : itOT.size ≤ sizeLine) (vOT : Vals (OTHERS.map V.str) itOT.toList)
    (aRE : PySem.W.nsIn K mainGlobals "REGISTERS" = some (some (.ref aR)))
    (xRE : K.lookup aR = some otRE) (yRE : otRE.cls = .type "tuple") (dRE : otRE.data = .seq itRE nnRE) (sRE : itRE.size ≤ sizeLine) (vRE : Vals (REGS.map V.str) itRE.toList)
    (aWd : PySem.W.nsIn K mainGlobals "WORDS" = some (some (.ref aWO)))
    (xWd : K.lookup aWO = some otWd) (yWd : otWd.cls = .type "tuple") (dWd : otWd.data = .seq itWd nnWd) (sWd : itWd.size ≤ sizeLine) (vWd : Vals (WORDS.map V.str) itWd.toList)
    (aRd : PySem.W.nsIn K mainGlobals "ROADS" = some (some (.ref aRD)))
    (xRd : K.lookup aRD = some otRd) (yRd : otRd.cls = .type "tuple") (dRd : otRd.data = .seq itRd nnRd) (sRd : itRd.size ≤ sizeLine) (vRd : Vals (ROADS.map V.str) itRd.toList)
    (aLs : PySem.W.nsIn K mainGlobals "LOOSE_SIGNS" = some (some (.ref aLS)))
    (xLs : K.lookup aLS = some otLs) (yLs : otLs.cls = .type "tuple") (dLs : otLs.data = .seq itLs nnLs) (sLs : itLs.size ≤ sizeLine) (vLs : Vals (LOOSE.map V.str) itLs.toList)
    (aSg : PySem.W.nsIn K mainGlobals "SIGNS" = some (some (.ref aSG)))
    (xSg : K.lookup aSG = some otSg) (ySg : otSg.cls = .type "tuple") (dSg : otSg.data = .seq itSg nnSg) (sSg : itSg.size ≤ sizeLine) (vSg : Vals ((["&", "|", "-"] : List Str).map V.str) itSg.toList)
    (aFO : PySem.W.nsIn K mainGlobals "FORMS" = some (some (.ref dF)))
    (xFO : K.lookup dF = some ⟨.type "dict", none, .dict es nF, #[]⟩) (keFO : es.toList.map entKey = FORM.map fun p => some p.1) (klFO : PySem.W.KeysLit w.params es.toList) (lwFO : (dF == sysModules) = false)
    (e0 : PySem.W.nsIn K dF "call" = some (some (.ref g0))) (x0 : K.lookup g0 = some of0) (y0 : of0.cls = .type "tuple") (d0 : of0.data = .seq if0 nf0) (s0 : if0.size ≤ sizeLine) (v0 : Vals ((["name"] : List Str).map V.str) if0.toList) (u0 : of0.dict = none)
    (e1 : PySem.W.nsIn K dF "callr" = some (some (.ref g1))) (x1 : K.lookup g1 = some of1) (y1 : of1.cls = .type "tuple") (d1 : of1.data = .seq if1 nf1) (s1 : if1.size ≤ sizeLine) (v1 : Vals ((["reg"] : List Str).map V.str) if1.toList) (u1 : of1.dict = none)
    (e2 : PySem.W.nsIn K dF "ret" = some (some (.ref g2))) (x2 : K.lookup g2 = some of2) (y2 : of2.cls = .type "tuple") (d2 : of2.data = .seq if2 nf2) (s2 : if2.size ≤ sizeLine) (v2 : Vals (([] : List Str).map V.str) if2.toList) (u2 : of2.dict = none)
    (e3 : PySem.W.nsIn K dF "addr" = some (some (.ref g3))) (x3 : K.lookup g3 = some of3) (y3 : of3.cls = .type "tuple") (d3 : of3.data = .seq if3 nf3) (s3 : if3.size ≤ sizeLine) (v3 : Vals ((["reg", "name"] : List Str).map V.str) if3.toList) (u3 : of3.dict = none)
    (e4 : PySem.W.nsIn K dF "set" = some (some (.ref g4))) (x4 : K.lookup g4 = some of4) (y4 : of4.cls = .type "tuple") (d4 : of4.data = .seq if4 nf4) (s4 : if4.size ≤ sizeLine) (v4 : Vals ((["reg", "integer"] : List Str).map V.str) if4.toList) (u4 : of4.dict = none)
    (e5 : PySem.W.nsIn K dF "move" = some (some (.ref g5))) (x5 : K.lookup g5 = some of5) (y5 : of5.cls = .type "tuple") (d5 : of5.data = .seq if5 nf5) (s5 : if5.size ≤ sizeLine) (v5 : Vals ((["reg", "reg"] : List Str).map V.str) if5.toList) (u5 : of5.dict = none)
    (e6 : PySem.W.nsIn K dF "read" = some (some (.ref g6))) (x6 : K.lookup g6 = some of6) (y6 : of6.cls = .type "tuple") (d6 : of6.data = .seq if6 nf6) (s6 : if6.size ≤ sizeLine) (v6 : Vals ((["reg", "name", "integer"] : List Str).map V.str) if6.toList) (u6 : of6.dict = none)
    (e7 : PySem.W.nsIn K dF "readr" = some (some (.ref g7))) (x7 : K.lookup g7 = some of7) (y7 : of7.cls = .type "tuple") (d7 : of7.data = .seq if7 nf7) (s7 : if7.size ≤ sizeLine) (v7 : Vals ((["reg", "reg", "integer"] : List Str).map V.str) if7.toList) (u7 : of7.dict = none)
    (e8 : PySem.W.nsIn K dF "same" = some (some (.ref g8))) (x8 : K.lookup g8 = some of8) (y8 : of8.cls = .type "tuple") (d8 : of8.data = .seq if8 nf8) (s8 : if8.size ≤ sizeLine) (v8 : Vals ((["reg", "reg", "to"] : List Str).map V.str) if8.toList) (u8 : of8.dict = none)
    (e9 : PySem.W.nsIn K dF "choose" = some (some (.ref g9))) (x9 : K.lookup g9 = some of9) (y9 : of9.cls = .type "tuple") (d9 : of9.data = .seq if9 nf9) (s9 : if9.size ≤ sizeLine) (v9 : Vals ((["to"] : List Str).map V.str) if9.toList) (u9 : of9.dict = none)
    (e10 : PySem.W.nsIn K dF "tell" = some (some (.ref g10))) (x10 : K.lookup g10 = some of10) (y10 : of10.cls = .type "tuple") (d10 : of10.data = .seq if10 nf10) (s10 : if10.size ≤ sizeLine) (v10 : Vals ((["reg"] : List Str).map V.str) if10.toList) (u10 : of10.dict = none)
    (e11 : PySem.W.nsIn K dF "go" = some (some (.ref g11))) (x11 : K.lookup g11 = some of11) (y11 : of11.cls = .type "tuple") (d11 : of11.data = .seq if11 nf11) (s11 : if11.size ≤ sizeLine) (v11 : Vals ((["to"] : List Str).map V.str) if11.toList) (u11 : of11.dict = none)
    (zisinstance : PySem.W.nsIn K mainGlobals "isinstance" = some none)
    (zstr : PySem.W.nsIn K mainGlobals "str" = some none)
    (zlen : PySem.W.nsIn K mainGlobals "len" = some none)
    (zall : PySem.W.nsIn K mainGlobals "all" = some none)
    (zany : PySem.W.nsIn K mainGlobals "any" = some none)
    (zint : PySem.W.nsIn K mainGlobals "int" = some none)
    (zzip : PySem.W.nsIn K mainGlobals "zip" = some none)
    (zrange : PySem.W.nsIn K mainGlobals "range" = some none)
    (zlist : PySem.W.nsIn K mainGlobals "list" = some none)
    (zmax : PySem.W.nsIn K mainGlobals "max" = some none)
    (aNm : PySem.W.nsIn K mainGlobals "is_name" = some (some (.ref fNm)))
    (lNm : K.lookup fNm = some ⟨ocNm, odNm, .func (PySem.W.fnOf "is_name" "is_name" (defArgs sIsName) (defBody sIsName) (defScope sIsName) .none kVNm dcNm pmNm anNm cdNm ctNm), slNm⟩) (cNm : PySem.W.codeIn K cdNm "is_name" = true) (kNm : PySem.W.keepIn K (.ref fNm) = true)
    (aFu : PySem.W.nsIn K mainGlobals "is_full_name" = some (some (.ref fFu)))
    (lFu : K.lookup fFu = some ⟨ocFu, odFu, .func (PySem.W.fnOf "is_full_name" "is_full_name" (defArgs sFull) (defBody sFull) (defScope sFull) .none kVFu dcFu pmFu anFu cdFu ctFu), slFu⟩) (cFu : PySem.W.codeIn K cdFu "is_full_name" = true) (kFu : PySem.W.keepIn K (.ref fFu) = true)
    (aCT : PySem.W.nsIn K mainGlobals "check_text" = some (some (.ref fCT)))
    (lCT : K.lookup fCT = some ⟨ocCT, odCT, .func (PySem.W.fnOf "check_text" "check_text" (defArgs (sAsk 0)) (defBody (sAsk 0)) (defScope (sAsk 0)) .none kVCT dcCT pmCT anCT cdCT ctCT), slCT⟩) (cCT : PySem.W.codeIn K cdCT "check_text" = true) (kCT : PySem.W.keepIn K (.ref fCT) = true)
    (aIW : PySem.W.nsIn K mainGlobals "in_words" = some (some (.ref fIW)))
    (lIW : K.lookup fIW = some ⟨ocIW, odIW, .func (PySem.W.fnOf "in_words" "in_words" (defArgs (sAsk 1)) (defBody (sAsk 1)) (defScope (sAsk 1)) .none kVIW dcIW pmIW anIW cdIW ctIW), slIW⟩) (cIW : PySem.W.codeIn K cdIW "in_words" = true) (kIW : PySem.W.keepIn K (.ref fIW) = true)
    (aRS : PySem.W.nsIn K mainGlobals "read_single" = some (some (.ref fRS)))
    (lRS : K.lookup fRS = some ⟨ocRS, odRS, .func (PySem.W.fnOf "read_single" "read_single" (defArgs (sAsk 3)) (defBody (sAsk 3)) (defScope (sAsk 3)) .none kVRS dcRS pmRS anRS cdRS ctRS), slRS⟩) (cRS : PySem.W.codeIn K cdRS "read_single" = true) (kRS : PySem.W.keepIn K (.ref fRS) = true)
    (aRI : PySem.W.nsIn K mainGlobals "read_inside" = some (some (.ref fRI)))
    (lRI : K.lookup fRI = some ⟨ocRI, odRI, .func (PySem.W.fnOf "read_inside" "read_inside" (defArgs (sAsk 4)) (defBody (sAsk 4)) (defScope (sAsk 4)) .none kVRI dcRI pmRI anRI cdRI ctRI), slRI⟩) (cRI : PySem.W.codeIn K cdRI "read_inside" = true) (kRI : PySem.W.keepIn K (.ref fRI) = true)
    (aRT : PySem.W.nsIn K mainGlobals "read_tight" = some (some (.ref fRT)))
    (lRT : K.lookup fRT = some ⟨ocRT, odRT, .func (PySem.W.fnOf "read_tight" "read_tight" (defArgs (sAsk 5)) (defBody (sAsk 5)) (defScope (sAsk 5)) .none kVRT dcRT pmRT anRT cdRT ctRT), slRT⟩) (cRT : PySem.W.codeIn K cdRT "read_tight" = true) (kRT : PySem.W.keepIn K (.ref fRT) = true)
    (aRL : PySem.W.nsIn K mainGlobals "read_loose" = some (some (.ref fRL)))
    (lRL : K.lookup fRL = some ⟨ocRL, odRL, .func (PySem.W.fnOf "read_loose" "read_loose" (defArgs (sAsk 6)) (defBody (sAsk 6)) (defScope (sAsk 6)) .none kVRL dcRL pmRL anRL cdRL ctRL), slRL⟩) (cRL : PySem.W.codeIn K cdRL "read_loose" = true) (kRL : PySem.W.keepIn K (.ref fRL) = true)
    (aRQ : PySem.W.nsIn K mainGlobals "read_question" = some (some (.ref fRQ)))
    (lRQ : K.lookup fRQ = some ⟨ocRQ, odRQ, .func (PySem.W.fnOf "read_question" "read_question" (defArgs (sAsk 7)) (defBody (sAsk 7)) (defScope (sAsk 7)) .none kVRQ dcRQ pmRQ anRQ cdRQ ctRQ), slRQ⟩) (cRQ : PySem.W.codeIn K cdRQ "read_question" = true) (kRQ : PySem.W.keepIn K (.ref fRQ) = true)
    (aWi : PySem.W.nsIn K mainGlobals "within" = some (some (.ref fWi)))
    (lWi : K.lookup fWi = some ⟨ocWi, odWi, .func (PySem.W.fnOf "within" "within" (defArgs (sAsk 8)) (defBody (sAsk 8)) (defScope (sAsk 8)) .none kVWi dcWi pmWi anWi cdWi ctWi), slWi⟩) (cWi : PySem.W.codeIn K cdWi "within" = true) (kWi : PySem.W.keepIn K (.ref fWi) = true)
    (aTT : PySem.W.nsIn K mainGlobals "tree_text" = some (some (.ref fTT)))
    (lTT : K.lookup fTT = some ⟨ocTT, odTT, .func (PySem.W.fnOf "tree_text" "tree_text" (defArgs (sAsk 9)) (defBody (sAsk 9)) (defScope (sAsk 9)) .none kVTT dcTT pmTT anTT cdTT ctTT), slTT⟩) (cTT : PySem.W.codeIn K cdTT "tree_text" = true) (kTT : PySem.W.keepIn K (.ref fTT) = true)
    (aLLf : PySem.W.nsIn K mainGlobals "_law_left" = some (some (.ref fLLf)))
    (lLLf : K.lookup fLLf = some ⟨ocLLf, odLLf, .func (PySem.W.fnOf "_law_left" "_law_left" (defArgs TopL.sLeft) (defBody TopL.sLeft) (defScope TopL.sLeft) .none kVLLf dcLLf pmLLf anLLf cdLLf ctLLf), slLLf⟩) (cLLf : PySem.W.codeIn K cdLLf "_law_left" = true) (kLLf : PySem.W.keepIn K (.ref fLLf) = true)
    (aLDr : PySem.W.nsIn K mainGlobals "_law_draw" = some (some (.ref fLDr)))
    (lLDr : K.lookup fLDr = some ⟨ocLDr, odLDr, .func (PySem.W.fnOf "_law_draw" "_law_draw" (defArgs TopL.sDraw) (defBody TopL.sDraw) (defScope TopL.sDraw) .none kVLDr dcLDr pmLDr anLDr cdLDr ctLDr), slLDr⟩) (cLDr : PySem.W.codeIn K cdLDr "_law_draw" = true) (kLDr : PySem.W.keepIn K (.ref fLDr) = true)
    (aLTr : PySem.W.nsIn K mainGlobals "_law_tree" = some (some (.ref fLTr)))
    (lLTr : K.lookup fLTr = some ⟨ocLTr, odLTr, .func (PySem.W.fnOf "_law_tree" "_law_tree" (defArgs (sLw 2)) (defBody (sLw 2)) (defScope (sLw 2)) .none kVLTr dcLTr pmLTr anLTr cdLTr ctLTr), slLTr⟩) (cLTr : PySem.W.codeIn K cdLTr "_law_tree" = true) (kLTr : PySem.W.keepIn K (.ref fLTr) = true)
    (aLLe : PySem.W.nsIn K mainGlobals "_law_least_text" = some (some (.ref fLLe)))
    (lLLe : K.lookup fLLe = some ⟨ocLLe, odLLe, .func (PySem.W.fnOf "_law_least_text" "_law_least_text" (defArgs (sLw 3)) (defBody (sLw 3)) (defScope (sLw 3)) .none kVLLe dcLLe pmLLe anLLe cdLLe ctLLe), slLLe⟩) (cLLe : PySem.W.codeIn K cdLLe "_law_least_text" = true) (kLLe : PySem.W.keepIn K (.ref fLLe) = true)
    (aLTo : PySem.W.nsIn K mainGlobals "_law_told" = some (some (.ref fLTo)))
    (lLTo : K.lookup fLTo = some ⟨ocLTo, odLTo, .func (PySem.W.fnOf "_law_told" "_law_told" (defArgs (sLw 4)) (defBody (sLw 4)) (defScope (sLw 4)) .none kVLTo dcLTo pmLTo anLTo cdLTo ctLTo), slLTo⟩) (cLTo : PySem.W.codeIn K cdLTo "_law_told" = true) (kLTo : PySem.W.keepIn K (.ref fLTo) = true)
    (aLNm : PySem.W.nsIn K mainGlobals "_law_is_name" = some (some (.ref fLNm)))
    (lLNm : K.lookup fLNm = some ⟨ocLNm, odLNm, .func (PySem.W.fnOf "_law_is_name" "_law_is_name" (defArgs (sLw 5)) (defBody (sLw 5)) (defScope (sLw 5)) .none kVLNm dcLNm pmLNm anLNm cdLNm ctLNm), slLNm⟩) (cLNm : PySem.W.codeIn K cdLNm "_law_is_name" = true) (kLNm : PySem.W.keepIn K (.ref fLNm) = true)
    (aLKd : PySem.W.nsIn K mainGlobals "_law_kind" = some (some (.ref fLKd)))
    (lLKd : K.lookup fLKd = some ⟨ocLKd, odLKd, .func (PySem.W.fnOf "_law_kind" "_law_kind" (defArgs (sLw 6)) (defBody (sLw 6)) (defScope (sLw 6)) .none kVLKd dcLKd pmLKd anLKd cdLKd ctLKd), slLKd⟩) (cLKd : PySem.W.codeIn K cdLKd "_law_kind" = true) (kLKd : PySem.W.keepIn K (.ref fLKd) = true)
    (aLWE : PySem.W.nsIn K mainGlobals "_law_word_end" = some (some (.ref fLWE)))
    (lLWE : K.lookup fLWE = some ⟨ocLWE, odLWE, .func (PySem.W.fnOf "_law_word_end" "_law_word_end" (defArgs (sLw 7)) (defBody (sLw 7)) (defScope (sLw 7)) .none kVLWE dcLWE pmLWE anLWE cdLWE ctLWE), slLWE⟩) (cLWE : PySem.W.codeIn K cdLWE "_law_word_end" = true) (kLWE : PySem.W.keepIn K (.ref fLWE) = true)
    (aLPl : PySem.W.nsIn K mainGlobals "_law_place" = some (some (.ref fLPl)))
    (lLPl : K.lookup fLPl = some ⟨ocLPl, odLPl, .func (PySem.W.fnOf "_law_place" "_law_place" (defArgs (sLw 8)) (defBody (sLw 8)) (defScope (sLw 8)) .none kVLPl dcLPl pmLPl anLPl cdLPl ctLPl), slLPl⟩) (cLPl : PySem.W.codeIn K cdLPl "_law_place" = true) (kLPl : PySem.W.keepIn K (.ref fLPl) = true)
    (aLBe : PySem.W.nsIn K mainGlobals "_law_bent" = some (some (.ref fLBe)))
    (lLBe : K.lookup fLBe = some ⟨ocLBe, odLBe, .func (PySem.W.fnOf "_law_bent" "_law_bent" (defArgs (sLw 9)) (defBody (sLw 9)) (defScope (sLw 9)) .none kVLBe dcLBe pmLBe anLBe cdLBe ctLBe), slLBe⟩) (cLBe : PySem.W.codeIn K cdLBe "_law_bent" = true) (kLBe : PySem.W.keepIn K (.ref fLBe) = true)
    (aLRi : PySem.W.nsIn K mainGlobals "_law_right" = some (some (.ref fLRi)))
    (lLRi : K.lookup fLRi = some ⟨ocLRi, odLRi, .func (PySem.W.fnOf "_law_right" "_law_right" (defArgs (sLw 10)) (defBody (sLw 10)) (defScope (sLw 10)) .none kVLRi dcLRi pmLRi anLRi cdLRi ctLRi), slLRi⟩) (cLRi : PySem.W.codeIn K cdLRi "_law_right" = true) (kLRi : PySem.W.keepIn K (.ref fLRi) = true)
    (aLa : PySem.W.nsIn K mainGlobals "law" = some (some (.ref fLa)))
    (lLa : K.lookup fLa = some ⟨ocLa, odLa, .func (PySem.W.fnOf "law" "law" (defArgs (sLw 11)) (defBody (sLw 11)) (defScope (sLw 11)) .none kVLa dcLa pmLa anLa cdLa ctLa), slLa⟩) (cLa : PySem.W.codeIn K cdLa "law" = true) (kLa : PySem.W.keepIn K (.ref fLa) = true)
    (hn : PySem.W.specialIn K (.builtin "object.__class__") "__get__" = some (some (.builtin "getset_descriptor.__get__"))) (ht : PySem.W.takesIn K (.builtin "object.__class__") = some true)
    (aBQ : PySem.W.nsIn K mainGlobals "BadQuestion" = some (some (.ref CBQ)))
    (xLBQ : K.lookup CBQ = some (excClassObj nxBQ qBQ CBQ NBQ bsBQ bmBQ true snBQ subBQ abBQ colBQ ddBQ m0BQ m1BQ m2BQ m3BQ m5BQ "ValueError.__new__")) (bvBQ : PySem.HandSPX.refsVE bmBQ = true)
    (saBQ : PySem.W.findIn K (.ref CBQ) "__setattr__" = some (some (.builtin "object.__setattr__"))) (gaBQ : PySem.W.findIn K (.ref CBQ) "__getattribute__" = some (some (.builtin "BaseException.__getattribute__"))) (ggBQ : PySem.W.findIn K (.ref CBQ) "__getattr__" = some none)
    (a1BQ : PySem.W.findIn K (.ref CBQ) "__init__" = some (some (.ref fBQ))) (t1BQ : PySem.W.typeIn K (.ref fBQ) = some (.type "function")) (kCBQ : PySem.W.keepIn K (.ref CBQ) = true) (eCBQ : PySem.W.subIn K (.ref CBQ) (.type "BaseException") = some true)
    (tCBQ : PySem.W.typeIn K (.ref CBQ) = some (.type "type")) (hCBQ : PySem.W.hasDictIn K CBQ = true) (cCBQ : PySem.W.findIn K (.ref CBQ) "__class__" = some (some (.builtin "object.__class__"))) (mCBQ : PySem.W.mroIn K CBQ (.type "object") = some true)
    (lBQ : K.lookup fBQ = some ⟨ocBQ, odBQ, .func (PySem.W.fnOf "__init__" "BadQuestion.__init__" (defArgs sBQI) (defBody sBQI) (defScope sBQI) .none kVBQ dcBQ pmBQ anBQ cdBQ ctBQ), slBQ⟩) (cBQ : PySem.W.codeIn K cdBQ "BadQuestion.__init__" = true) (kBQ : PySem.W.keepIn K (.ref fBQ) = true)
    (noBQplace : PySem.W.findIn K (.ref CBQ) "place" = some none)
    (iCBQ : PySem.W.isClsIn K CBQ = true) (sCBQ : PySem.W.subIn K (.ref CBQ) (.ref CBQ) = some true)
    (aCPt : PySem.W.nsIn K mainGlobals "Parts" = some (some (.ref CPt)))
    (pgCPt : PySem.W.plainGet K CPt Str.empty = true) (hdCPt : PySem.W.hasDictIn K CPt = true) (poCPt : PySem.W.plainOver K CPt = true) (saCPt : PySem.W.findIn K (.ref CPt) "__setattr__" = some (some (.builtin "object.__setattr__"))) (mkCPt : PySem.W.makesIn K CPt = true) (kcCPt : PySem.W.keepIn K (.ref CPt) = true)
    (nCPttext_read : PySem.W.findIn K (.ref CPt) "text_read" = some none)
    (nCPtopened : PySem.W.findIn K (.ref CPt) "opened" = some none)
    (nCPtplace : PySem.W.findIn K (.ref CPt) "place" = some none)
    (nCPtword : PySem.W.findIn K (.ref CPt) "word" = some none)
    (mPI : PySem.W.findIn K (.ref CPt) "__init__" = some (some (.ref fPI))) (iPI : PySem.W.isFn K (.ref fPI) = true)
    (lPI : K.lookup fPI = some ⟨ocPI, odPI, .func (PySem.W.fnOf "__init__" "Parts.__init__" (defArgs (sPt 0)) (defBody (sPt 0)) (defScope (sPt 0)) .none kVPI dcPI pmPI anPI cdPI ctPI), slPI⟩) (cPI : PySem.W.codeIn K cdPI "Parts.__init__" = true) (kPI : PySem.W.keepIn K (.ref fPI) = true)
    (mPG : PySem.W.findIn K (.ref CPt) "go_to" = some (some (.ref fPG))) (iPG : PySem.W.isFn K (.ref fPG) = true)
    (lPG : K.lookup fPG = some ⟨ocPG, odPG, .func (PySem.W.fnOf "go_to" "Parts.go_to" (defArgs (sPt 1)) (defBody (sPt 1)) (defScope (sPt 1)) .none kVPG dcPG pmPG anPG cdPG ctPG), slPG⟩) (cPG : PySem.W.codeIn K cdPG "Parts.go_to" = true) (kPG : PySem.W.keepIn K (.ref fPG) = true)
    (mPO : PySem.W.findIn K (.ref CPt) "go_on" = some (some (.ref fPO))) (iPO : PySem.W.isFn K (.ref fPO) = true)
    (lPO : K.lookup fPO = some ⟨ocPO, odPO, .func (PySem.W.fnOf "go_on" "Parts.go_on" (defArgs (sPt 2)) (defBody (sPt 2)) (defScope (sPt 2)) .none kVPO dcPO pmPO anPO cdPO ctPO), slPO⟩) (cPO : PySem.W.codeIn K cdPO "Parts.go_on" = true) (kPO : PySem.W.keepIn K (.ref fPO) = true)
    (mPE : PySem.W.findIn K (.ref CPt) "enter" = some (some (.ref fPE))) (iPE : PySem.W.isFn K (.ref fPE) = true)
    (lPE : K.lookup fPE = some ⟨ocPE, odPE, .func (PySem.W.fnOf "enter" "Parts.enter" (defArgs (sPt 3)) (defBody (sPt 3)) (defScope (sPt 3)) .none kVPE dcPE pmPE anPE cdPE ctPE), slPE⟩) (cPE : PySem.W.codeIn K cdPE "Parts.enter" = true) (kPE : PySem.W.keepIn K (.ref fPE) = true)
    (mPL : PySem.W.findIn K (.ref CPt) "leave" = some (some (.ref fPL))) (iPL : PySem.W.isFn K (.ref fPL) = true)
    (lPL : K.lookup fPL = some ⟨ocPL, odPL, .func (PySem.W.fnOf "leave" "Parts.leave" (defArgs (sPt 4)) (defBody (sPt 4)) (defScope (sPt 4)) .none kVPL dcPL pmPL anPL cdPL ctPL), slPL⟩) (cPL : PySem.W.codeIn K cdPL "Parts.leave" = true) (kPL : PySem.W.keepIn K (.ref fPL) = true)
    (aCQ : PySem.W.nsIn K mainGlobals "Question" = some (some (.ref CQ)))
    (pgCQ : PySem.W.plainGet K CQ Str.empty = true) (hdCQ : PySem.W.hasDictIn K CQ = true) (poCQ : PySem.W.plainOver K CQ = true) (saCQ : PySem.W.findIn K (.ref CQ) "__setattr__" = some (some (.builtin "object.__setattr__"))) (mkCQ : PySem.W.makesIn K CQ = true) (kcCQ : PySem.W.keepIn K (.ref CQ) = true)
    (nCQ_tree : PySem.W.findIn K (.ref CQ) "_tree" = some none)
    (nCQ_text : PySem.W.findIn K (.ref CQ) "_text" = some none)
    (ccCQ : PySem.W.findIn K (.ref CQ) "__class__" = some (some (.builtin "object.__class__"))) (mmCQ : PySem.W.mroIn K CQ (.type "object") = some true)
    (eCQ : PySem.W.findIn K (.ref CQ) "__ne__" = some (some (.builtin "object.__ne__"))) (suCQ : PySem.W.subIn K (.type "str") (.ref CQ) = some false) (tyCQ : PySem.W.typeIn K (.ref CQ) = some (.type "type"))
    (mQI : PySem.W.findIn K (.ref CQ) "__init__" = some (some (.ref fQI))) (iQI : PySem.W.isFn K (.ref fQI) = true)
    (lQI : K.lookup fQI = some ⟨ocQI, odQI, .func (PySem.W.fnOf "__init__" "Question.__init__" (defArgs (sQu 0)) (defBody (sQu 0)) (defScope (sQu 0)) .none kVQI dcQI pmQI anQI cdQI ctQI), slQI⟩) (cQI : PySem.W.codeIn K cdQI "Question.__init__" = true) (kQI : PySem.W.keepIn K (.ref fQI) = true)
    : ∃ fd : FuncData, (∀ (s : Shared) (v : Value), BindsTo s fd ⟨[v], []⟩ [("_law_script", v)]) ∧ ∀ base : Heap, K.In base → base.Ns mainGlobals mg → FnOk l.prog w K mg base CX0 206 fa fd ["_law_script"] (spLaw K) := by
  have e := hfa.symm.trans (PySem.W.mg_of X G aLa)
  cases e
  have lF : ∀ z, PySem.W.nsIn K dF z = some ((formOf z).map fun _ => Value.ref (tFn [g0, g1, g2, g3, g4, g5, g6, g7, g8, g9, g10, g11] z)) := by
    intro z
    cases hz : formOf z with
    | none =>
      refine ns_none (ks := FORM.map Prod.fst) xFO (by rw [keFO, List.map_map]; rfl) ?_
      cases hc : (FORM.map Prod.fst).contains z with
      | false => rfl
      | true =>
        have hm : z ∈ FORM.map Prod.fst := by simpa using hc
        have key : ∀ k ∈ FORM.map Prod.fst, (formOf k).isSome = true := by decide +kernel
        have := key z hm
        rw [hz] at this
        cases this
    | some ws =>
      have hm : z ∈ FORM.map Prod.fst := List.mem_map.mpr ⟨_, PySem.mem_of_lookup hz, rfl⟩
      have hm : z = "call" ∨ z = "callr" ∨ z = "ret" ∨ z = "addr" ∨ z = "set" ∨ z = "move" ∨ z = "read" ∨ z = "readr" ∨ z = "same" ∨ z = "choose" ∨ z = "tell" ∨ z = "go" := by simpa [FORM] using hm
      rcases hm with rfl | rfl | rfl | rfl | rfl | rfl | rfl | rfl | rfl | rfl | rfl | rfl
      · exact e0
      · exact e1
      · exact e2
      · exact e3
      · exact e4
      · exact e5
      · exact e6
      · exact e7
      · exact e8
      · exact e9
      · exact e10
      · exact e11
  have tF : ∀ z ws, formOf z = some ws → KT K (tFn [g0, g1, g2, g3, g4, g5, g6, g7, g8, g9, g10, g11] z) (ws.map V.str) := by
    intro z ws hz
    have hm : z ∈ FORM.map Prod.fst := List.mem_map.mpr ⟨_, PySem.mem_of_lookup hz, rfl⟩
    have hm : z = "call" ∨ z = "callr" ∨ z = "ret" ∨ z = "addr" ∨ z = "set" ∨ z = "move" ∨ z = "read" ∨ z = "readr" ∨ z = "same" ∨ z = "choose" ∨ z = "tell" ∨ z = "go" := by simpa [FORM] using hm
    rcases hm with rfl | rfl | rfl | rfl | rfl | rfl | rfl | rfl | rfl | rfl | rfl | rfl
    · cases hz; exact kt_mk x0 y0 d0 s0 v0
    · cases hz; exact kt_mk x1 y1 d1 s1 v1
    · cases hz; exact kt_mk x2 y2 d2 s2 v2
    · cases hz; exact kt_mk x3 y3 d3 s3 v3
    · cases hz; exact kt_mk x4 y4 d4 s4 v4
    · cases hz; exact kt_mk x5 y5 d5 s5 v5
    · cases hz; exact kt_mk x6 y6 d6 s6 v6
    · cases hz; exact kt_mk x7 y7 d7 s7 v7
    · cases hz; exact kt_mk x8 y8 d8 s8 v8
    · cases hz; exact kt_mk x9 y9 d9 s9 v9
    · cases hz; exact kt_mk x10 y10 d10 s10 v10
    · cases hz; exact kt_mk x11 y11 d11 s11 v11
  have T : TX.TT K w mg aO aR dF es nF (tFn [g0, g1, g2, g3, g4, g5, g6, g7, g8, g9, g10, g11]) := ⟨⟨_, (PySem.W.mg_of X G aLE)⟩, ⟨_, (PySem.W.mg_of X G aDI)⟩, ⟨_, (PySem.W.mg_of X G aL8)⟩, (PySem.W.mg_of X G aOT), kt_mk xOT yOT dOT sOT vOT, (PySem.W.mg_of X G aRE), kt_mk xRE yRE dRE sRE vRE, (PySem.W.mg_of X G aFO), ⟨xFO, klFO, lwFO⟩, lF, tF, (PySem.W.mg_none_of X G zisinstance), (PySem.W.mg_none_of X G zstr), (PySem.W.mg_none_of X G zlen), (PySem.W.mg_none_of X G zall), (PySem.W.mg_none_of X G zany), (PySem.W.mg_none_of X G zint), (PySem.W.mg_none_of X G zzip)⟩
  have FNm := fun_mk (st := sIsName) lNm cNm kNm
  have bNm := FNm.binds (ps := ["value"]) fun _ _ _ _ _ _ us hl => match us, hl with | [_], _ => rfl
  have FFu := fun_mk (st := sFull) lFu cFu kFu
  have bFu := FFu.binds (ps := ["word"]) fun _ _ _ _ _ _ us hl => match us, hl with | [_], _ => rfl
  have FCT := fun_mk (st := (sAsk 0)) lCT cCT kCT
  have bCT := FCT.binds (ps := ["text"]) fun _ _ _ _ _ _ us hl => match us, hl with | [_], _ => rfl
  have FIW := fun_mk (st := (sAsk 1)) lIW cIW kIW
  have bIW := FIW.binds (ps := ["sign"]) fun _ _ _ _ _ _ us hl => match us, hl with | [_], _ => rfl
  have FRS := fun_mk (st := (sAsk 3)) lRS cRS kRS
  have bRS := FRS.binds (ps := ["parts"]) fun _ _ _ _ _ _ us hl => match us, hl with | [_], _ => rfl
  have FRI := fun_mk (st := (sAsk 4)) lRI cRI kRI
  have bRI := FRI.binds (ps := ["parts"]) fun _ _ _ _ _ _ us hl => match us, hl with | [_], _ => rfl
  have FRT := fun_mk (st := (sAsk 5)) lRT cRT kRT
  have bRT := FRT.binds (ps := ["parts"]) fun _ _ _ _ _ _ us hl => match us, hl with | [_], _ => rfl
  have FRL := fun_mk (st := (sAsk 6)) lRL cRL kRL
  have bRL := FRL.binds (ps := ["parts"]) fun _ _ _ _ _ _ us hl => match us, hl with | [_], _ => rfl
  have FRQ := fun_mk (st := (sAsk 7)) lRQ cRQ kRQ
  have bRQ := FRQ.binds (ps := ["text"]) fun _ _ _ _ _ _ us hl => match us, hl with | [_], _ => rfl
  have FWi := fun_mk (st := (sAsk 8)) lWi cWi kWi
  have bWi := FWi.binds (ps := ["tree", "signs"]) fun _ _ _ _ _ _ us hl => match us, hl with | [_, _], _ => rfl
  have FTT := fun_mk (st := (sAsk 9)) lTT cTT kTT
  have bTT := FTT.binds (ps := ["tree"]) fun _ _ _ _ _ _ us hl => match us, hl with | [_], _ => rfl
  have FLLf := fun_mk (st := TopL.sLeft) lLLf cLLf kLLf
  have bLLf := FLLf.binds (ps := ["_law_script"]) fun _ _ _ _ _ _ us hl => match us, hl with | [_], _ => rfl
  have FLDr := fun_mk (st := TopL.sDraw) lLDr cLDr kLDr
  have bLDr := FLDr.binds (ps := ["_law_left_here", "_law_most"]) fun _ _ _ _ _ _ us hl => match us, hl with | [_, _], _ => rfl
  have FLTr := fun_mk (st := (sLw 2)) lLTr cLTr kLTr
  have bLTr := FLTr.binds (ps := ["_law_left_here", "_law_names", "_law_deep"]) fun _ _ _ _ _ _ us hl => match us, hl with | [_, _, _], _ => rfl
  have FLLe := fun_mk (st := (sLw 3)) lLLe cLLe kLLe
  have bLLe := FLLe.binds (ps := ["_law_tree_here"]) fun _ _ _ _ _ _ us hl => match us, hl with | [_], _ => rfl
  have FLTo := fun_mk (st := (sLw 4)) lLTo cLTo kLTo
  have bLTo := FLTo.binds (ps := ["_law_text"]) fun _ _ _ _ _ _ us hl => match us, hl with | [_], _ => rfl
  have FLNm := fun_mk (st := (sLw 5)) lLNm cLNm kLNm
  have bLNm := FLNm.binds (ps := ["_law_word"]) fun _ _ _ _ _ _ us hl => match us, hl with | [_], _ => rfl
  have FLKd := fun_mk (st := (sLw 6)) lLKd cLKd kLKd
  have bLKd := FLKd.binds (ps := ["_law_word"]) fun _ _ _ _ _ _ us hl => match us, hl with | [_], _ => rfl
  have FLWE := fun_mk (st := (sLw 7)) lLWE cLWE kLWE
  have bLWE := FLWE.binds (ps := ["_law_text", "_law_spot"]) fun _ _ _ _ _ _ us hl => match us, hl with | [_, _], _ => rfl
  have FLPl := fun_mk (st := (sLw 8)) lLPl cLPl kLPl
  have bLPl := FLPl.binds (ps := ["_law_text"]) fun _ _ _ _ _ _ us hl => match us, hl with | [_], _ => rfl
  have FLBe := fun_mk (st := (sLw 9)) lLBe cLBe kLBe
  have bLBe := FLBe.binds (ps := ["_law_left_here", "_law_text"]) fun _ _ _ _ _ _ us hl => match us, hl with | [_, _], _ => rfl
  have FLRi := fun_mk (st := (sLw 10)) lLRi cLRi kLRi
  have bLRi := FLRi.binds (ps := ["_law_text"]) fun _ _ _ _ _ _ us hl => match us, hl with | [_], _ => rfl
  have FLa := fun_mk (st := (sLw 11)) lLa cLa kLa
  have bLa := FLa.binds (ps := ["_law_script"]) fun _ _ _ _ _ _ us hl => match us, hl with | [_], _ => rfl
  have FBQ := fun_mk (st := sBQI) lBQ cBQ kBQ
  have bBQ := FBQ.binds (ps := ["self", "place"]) fun _ _ _ _ _ _ us hl => match us, hl with | [_, _], _ => rfl
  have FPI := fun_mk (st := (sPt 0)) lPI cPI kPI
  have bPI := FPI.binds (ps := ["self", "text"]) fun _ _ _ _ _ _ us hl => match us, hl with | [_, _], _ => rfl
  have FPG := fun_mk (st := (sPt 1)) lPG cPG kPG
  have bPG := FPG.binds (ps := ["self", "place"]) fun _ _ _ _ _ _ us hl => match us, hl with | [_, _], _ => rfl
  have FPO := fun_mk (st := (sPt 2)) lPO cPO kPO
  have bPO := FPO.binds (ps := ["self"]) fun _ _ _ _ _ _ us hl => match us, hl with | [_], _ => rfl
  have FPE := fun_mk (st := (sPt 3)) lPE cPE kPE
  have bPE := FPE.binds (ps := ["self"]) fun _ _ _ _ _ _ us hl => match us, hl with | [_], _ => rfl
  have FPL := fun_mk (st := (sPt 4)) lPL cPL kPL
  have bPL := FPL.binds (ps := ["self"]) fun _ _ _ _ _ _ us hl => match us, hl with | [_], _ => rfl
  have FQI := fun_mk (st := (sQu 0)) lQI cQI kQI
  have bQI := FQI.binds (ps := ["self", "text"]) fun _ _ _ _ _ _ us hl => match us, hl with | [_, _], _ => rfl
  have EBQ : EC K mg "BadQuestion" CBQ fBQ := ec_mk X G aBQ xLBQ bvBQ saBQ gaBQ ggBQ a1BQ t1BQ kCBQ eCBQ tCBQ hCBQ cCBQ mCBQ hn ht
  have Q : TQ K mg aWO aRD aLS aSG CPt := ⟨(PySem.W.mg_of X G aWd), kt_mk xWd yWd dWd sWd vWd, (PySem.W.mg_of X G aRd), kt_mk xRd yRd dRd sRd vRd, (PySem.W.mg_of X G aLs), kt_mk xLs yLs dLs sLs vLs, (PySem.W.mg_of X G aSg), kt_mk xSg ySg dSg sSg vSg, ⟨_, (PySem.W.mg_of X G aLO)⟩, ⟨_, (PySem.W.mg_of X G aMO)⟩, (PySem.W.mg_none_of X G zmax), ⟨pgCPt, hdCPt, poCPt, saCPt⟩, nCPttext_read, nCPtopened, nCPtplace, nCPtword⟩
  have U : TU K CQ := ⟨⟨pgCQ, hdCQ, poCQ, saCQ⟩, ⟨ccCQ, hn, ht, mmCQ⟩, kit_ownT hdCQ tyCQ suCQ, suCQ, nCQ_tree, nCQ_text⟩
  refine ⟨PySem.W.fnOf "law" "law" (defArgs (sLw 11)) (defBody (sLw 11)) (defScope (sLw 11)) .none kVLa dcLa pmLa anLa cdLa ctLa, fun s v => .of_eq rfl, fun base _ _ => ?_⟩
  have GNm : FnOk l.prog w K mg base CX0 1 fNm _ ["value"] (spIsName K) := ok_isName FNm T
  have GFu : FnOk l.prog w K mg base CX0 2 fFu _ ["word"] spFull := ok_full FFu T GNm bNm (PySem.W.mg_of X G aNm) kNm
  have GIW : FnOk l.prog w K mg base CX0 1 fIW _ ["sign"] spInW := ok_inW FIW T
  have GPG : FnOk l.prog w K mg base CX0 2 fPG _ ["self", "place"] (spGoTo CPt) := ok_goTo FPG Q (PySem.W.mg_none_of X G zlen) GIW bIW (PySem.W.mg_of X G aIW) kIW
  have GPI : FnOk l.prog w K mg base CX0 3 fPI _ ["self", "text"] (spPtI CPt) := ok_ptI FPI Q GPG bPG ⟨mPG, iPG, kPG⟩
  have GPO : FnOk l.prog w K mg base CX0 3 fPO _ ["self"] (spGoOn CPt) := ok_goOn FPO Q (PySem.W.mg_none_of X G zlen) GPG bPG ⟨mPG, iPG, kPG⟩
  have GBQ : FnOk l.prog w K mg base CX0 1 fBQ _ ["self", "place"] (spBad CBQ "place") := ok_badq FBQ EBQ noBQplace
  have GPE : FnOk l.prog w K mg base (L2.CX l.prog w) 4 fPE _ ["self"] (spEnter CPt CBQ) := ok_enter FPE Q EBQ GPO bPO ⟨mPO, iPO, kPO⟩ GBQ bBQ
  have GPL : FnOk l.prog w K mg base (L2.CX l.prog w) 4 fPL _ ["self"] (spLeave CPt CBQ) := ok_leave FPL Q EBQ GPO bPO ⟨mPO, iPO, kPO⟩ GBQ bBQ
  have RD := readers Q FRI bRI (PySem.W.mg_of X G aRI) kRI FRS bRS (PySem.W.mg_of X G aRS) kRS FRT bRT (PySem.W.mg_of X G aRT) kRT FRL bRL (PySem.W.mg_of X G aRL) kRL GPE bPE ⟨mPE, iPE, kPE⟩ GPL bPL ⟨mPL, iPL, kPL⟩ GPO bPO ⟨mPO, iPO, kPO⟩ GFu bFu (PySem.W.mg_of X G aFu) kFu
  have GRL : FnOk l.prog w K mg base (L2.CX l.prog w) 40 fRL _ ["parts"] (spRd CPt CBQ Lo 8) := (RD 8).2
  have GCT : FnOk l.prog w K mg base (L2.CX l.prog w) 3 fCT _ ["text"] (spCkT K CBQ) := ok_ckT FCT Q T EBQ GBQ bBQ
  have GRQ : FnOk l.prog w K mg base (L2.CX l.prog w) 201 fRQ _ ["text"] (spRQ K CBQ) := (ok_readQ FRQ Q EBQ (by decide) GBQ bBQ GCT bCT (PySem.W.mg_of X G aCT) kCT GPI bPI ⟨mkCPt, mPI, iPI, kcCPt⟩ (PySem.W.mg_of X G aCPt) GRL bRL (PySem.W.mg_of X G aRL) kRL).mono (k := 201) (by decide)
  have GTT : FnOk l.prog w K mg base CX0 201 fTT _ ["tree"] (spTT 100) := textsT Q FTT bTT (PySem.W.mg_of X G aTT) kTT FWi bWi (PySem.W.mg_of X G aWi) kWi 100
  have GQI : FnOk l.prog w K mg base (L2.CX l.prog w) 202 fQI _ ["self", "text"] (spQI K CBQ CQ 100) := ok_quI FQI U (by decide) GRQ bRQ (PySem.W.mg_of X G aRQ) kRQ GTT bTT (PySem.W.mg_of X G aTT) kTT
  have GLLf : FnOk l.prog w K mg base CX0 1 fLLf _ ["_law_script"] (LD.spLeft K) := LD.ok_left FLLf (PySem.W.mg_none_of X G zlist) (PySem.W.mg_none_of X G zlen)
  have GLDr : FnOk l.prog w K mg base CX0 1 fLDr _ ["_law_left_here", "_law_most"] LD.spDraw := LD.ok_draw FLDr (PySem.W.mg_none_of X G zlen) (PySem.W.mg_none_of X G zint)
  have TRS := trees (P := l.prog) (w := w) (base := base) FLTr (PySem.W.mg_none_of X G zlen) (PySem.W.mg_none_of X G zint) GLDr bLDr (PySem.W.mg_of X G aLDr) kLDr bLTr (PySem.W.mg_of X G aLTr) kLTr
  have GLTr : FnOk l.prog w K mg base CX0 5 fLTr _ ["_law_left_here", "_law_names", "_law_deep"] spTree3 := tree3 fun e h1 h2 => (TRS e).mono (by omega)
  have GLLe : FnOk l.prog w K mg base CX0 5 fLLe _ ["_law_tree_here"] (spLeast 3) := leasts FLLe bLLe (PySem.W.mg_of X G aLLe) kLLe 3
  have te : PySem.W.exmOne K (.ref CBQ) (.ref CBQ) = some true := exm_own eCBQ iCBQ tCBQ sCBQ
  have GLTo : FnOk l.prog w K mg base CX0 204 fLTo _ ["_law_text"] (spTold K) := ok_told FLTo (D := 100) (by decide) EBQ noBQplace te GQI bQI ⟨mkCQ, mQI, iQI, kcCQ⟩ (PySem.W.mg_of X G aCQ)
  have GLNm : FnOk l.prog w K mg base CX0 1 fLNm _ ["_law_word"] spLN := ok_lname FLNm (PySem.W.mg_none_of X G zlen)
  have GLKd : FnOk l.prog w K mg base CX0 2 fLKd _ ["_law_word"] spKd := ok_kind FLKd (PySem.W.mg_none_of X G zlen) GLNm bLNm (PySem.W.mg_of X G aLNm) kLNm
  have GLWE : FnOk l.prog w K mg base CX0 1 fLWE _ ["_law_text", "_law_spot"] spWE := ok_wend FLWE (PySem.W.mg_none_of X G zlen)
  have GLPl : FnOk l.prog w K mg base CX0 3 fLPl _ ["_law_text"] spPl := ok_place FLPl (PySem.W.mg_none_of X G zlen) GLWE bLWE (PySem.W.mg_of X G aLWE) kLWE GLKd bLKd (PySem.W.mg_of X G aLKd) kLKd
  have GLBe : FnOk l.prog w K mg base CX0 2 fLBe _ ["_law_left_here", "_law_text"] spBent := ok_bent FLBe (PySem.W.mg_none_of X G zlen) GLDr bLDr (PySem.W.mg_of X G aLDr) kLDr
  have GLRi : FnOk l.prog w K mg base CX0 205 fLRi _ ["_law_text"] spRg := ok_right FLRi (PySem.W.mg_none_of X G zlen) (by decide) GLTo bLTo (PySem.W.mg_of X G aLTo) kLTo GLPl bLPl (PySem.W.mg_of X G aLPl) kLPl
  exact ok_law FLa (PySem.W.mg_none_of X G zrange) (PySem.W.mg_none_of X G zlen) (by decide) GLLf bLLf (PySem.W.mg_of X G aLLf) kLLf GLDr bLDr (PySem.W.mg_of X G aLDr) kLDr GLTr bLTr (PySem.W.mg_of X G aLTr) kLTr GLLe bLLe (PySem.W.mg_of X G aLLe) kLLe GLTo bLTo (PySem.W.mg_of X G aLTo) kLTo GLBe bLBe (PySem.W.mg_of X G aLBe) kLBe GLRi bLRi (PySem.W.mg_of X G aLRi) kLRi
end AQ

set_option Elab.async false
set_option linter.all false
open PySem PySem.W PyProof.Rows in
set_option maxRecDepth 100000 in
set_option maxHeartbeats 0 in
theorem PySem.Challenge.cw_foldsame_k82_places_in_questions_holds : PySem.Challenge.rw_foldsame_k82_places_in_questions.Holds := by
  w_on; o_law; k_head; (case hw => w_witness2)
  k_fill
  refine L2.walk_of (l := PySem.Challenge.rw_foldsame_k82_places_in_questions) (n := 63) (k := 206) (x := "_law_script") (CX := fun _ => L2.CX0) (sp := fun w => AQ.spLaw _) rfl (by decide) rfl ⟨rfl, by decide, by decide⟩ (fun w h Y => PySem.W.kIn_of Y) ?F (fun _ _ a ns hl _ hS => ⟨a, ns, rfl, hS, hl, fun _ => rfl⟩) (fun _ _ _ _ _ h => h)
  case F =>
    intro w mg fa h KX G hmg
    refine' AQ.all_mk KX G hmg ?aLE ?aDI ?aL8 ?aLO ?aMO ?aOT ?xOT ?yOT ?dOT ?sOT ?vOT ?aRE ?xRE ?yRE ?dRE ?sRE ?vRE ?aWd ?xWd ?yWd ?dWd ?sWd ?vWd ?aRd ?xRd ?yRd ?dRd ?sRd ?vRd ?aLs ?xLs ?yLs ?dLs ?sLs ?vLs ?aSg ?xSg ?ySg ?dSg ?sSg ?vSg ?aFO ?xFO ?keFO ?klFO ?lwFO ?e0 ?x0 ?y0 ?d0 ?s0 ?v0 ?u0 ?e1 ?x1 ?y1 ?d1 ?s1 ?v1 ?u1 ?e2 ?x2 ?y2 ?d2 ?s2 ?v2 ?u2 ?e3 ?x3 ?y3 ?d3 ?s3 ?v3 ?u3 ?e4 ?x4 ?y4 ?d4 ?s4 ?v4 ?u4 ?e5 ?x5 ?y5 ?d5 ?s5 ?v5 ?u5 ?e6 ?x6 ?y6 ?d6 ?s6 ?v6 ?u6 ?e7 ?x7 ?y7 ?d7 ?s7 ?v7 ?u7 ?e8 ?x8 ?y8 ?d8 ?s8 ?v8 ?u8 ?e9 ?x9 ?y9 ?d9 ?s9 ?v9 ?u9 ?e10 ?x10 ?y10 ?d10 ?s10 ?v10 ?u10 ?e11 ?x11 ?y11 ?d11 ?s11 ?v11 ?u11 ?zisinstance ?zstr ?zlen ?zall ?zany ?zint ?zzip ?zrange ?zlist ?zmax ?aNm ?lNm ?cNm ?kNm ?aFu ?lFu ?cFu ?kFu ?aCT ?lCT ?cCT ?kCT ?aIW ?lIW ?cIW ?kIW ?aRS ?lRS ?cRS ?kRS ?aRI ?lRI ?cRI ?kRI ?aRT ?lRT ?cRT ?kRT ?aRL ?lRL ?cRL ?kRL ?aRQ ?lRQ ?cRQ ?kRQ ?aWi ?lWi ?cWi ?kWi ?aTT ?lTT ?cTT ?kTT ?aLLf ?lLLf ?cLLf ?kLLf ?aLDr ?lLDr ?cLDr ?kLDr ?aLTr ?lLTr ?cLTr ?kLTr ?aLLe ?lLLe ?cLLe ?kLLe ?aLTo ?lLTo ?cLTo ?kLTo ?aLNm ?lLNm ?cLNm ?kLNm ?aLKd ?lLKd ?cLKd ?kLKd ?aLWE ?lLWE ?cLWE ?kLWE ?aLPl ?lLPl ?cLPl ?kLPl ?aLBe ?lLBe ?cLBe ?kLBe ?aLRi ?lLRi ?cLRi ?kLRi ?aLa ?lLa ?cLa ?kLa ?hn ?ht ?aBQ ?xLBQ ?bvBQ ?saBQ ?gaBQ ?ggBQ ?a1BQ ?t1BQ ?kCBQ ?eCBQ ?tCBQ ?hCBQ ?cCBQ ?mCBQ ?lBQ ?cBQ ?kBQ ?noBQplace ?iCBQ ?sCBQ ?aCPt ?pgCPt ?hdCPt ?poCPt ?saCPt ?mkCPt ?kcCPt ?nCPttext_read ?nCPtopened ?nCPtplace ?nCPtword ?mPI ?iPI ?lPI ?cPI ?kPI ?mPG ?iPG ?lPG ?cPG ?kPG ?mPO ?iPO ?lPO ?cPO ?kPO ?mPE ?iPE ?lPE ?cPE ?kPE ?mPL ?iPL ?lPL ?cPL ?kPL ?aCQ ?pgCQ ?hdCQ ?poCQ ?saCQ ?mkCQ ?kcCQ ?nCQ_tree ?nCQ_text ?ccCQ ?mmCQ ?eCQ ?suCQ ?tyCQ ?mQI ?iQI ?lQI ?cQI ?kQI
    (case aLE => k_is)
    (case aDI => k_is)
    (case aL8 => k_is)
    (case aLO => k_is)
    (case aMO => k_is)
    (case aOT => k_is)
    (case xOT => k_is)
    (case yOT => rfl)
    (case dOT => rfl)
    (case sOT => decide)
    (case vOT => (repeat (first | exact .nil | refine .cons ⟨_, rfl⟩ ?_)))
    (case aRE => k_is)
    (case xRE => k_is)
    (case yRE => rfl)
    (case dRE => rfl)
    (case sRE => decide)
    (case vRE => (repeat (first | exact .nil | refine .cons ⟨_, rfl⟩ ?_)))
    (case aWd => k_is)
    (case xWd => k_is)
    (case yWd => rfl)
    (case dWd => rfl)
    (case sWd => decide)
    (case vWd => (repeat (first | exact .nil | refine .cons ⟨_, rfl⟩ ?_)))
    (case aRd => k_is)
    (case xRd => k_is)
    (case yRd => rfl)
    (case dRd => rfl)
    (case sRd => decide)
    (case vRd => (repeat (first | exact .nil | refine .cons ⟨_, rfl⟩ ?_)))
    (case aLs => k_is)
    (case xLs => k_is)
    (case yLs => rfl)
    (case dLs => rfl)
    (case sLs => decide)
    (case vLs => (repeat (first | exact .nil | refine .cons ⟨_, rfl⟩ ?_)))
    (case aSg => k_is)
    (case xSg => k_is)
    (case ySg => rfl)
    (case dSg => rfl)
    (case sSg => decide)
    (case vSg => (repeat (first | exact .nil | refine .cons ⟨_, rfl⟩ ?_)))
    (case aFO => k_is)
    (case xFO => k_is)
    (case keFO => rfl)
    (case klFO => k_keys)
    (case lwFO => first | rfl | decide)
    (case e0 => k_is)
    (case x0 => k_is)
    (case y0 => rfl)
    (case d0 => rfl)
    (case s0 => decide)
    (case v0 => (repeat (first | exact .nil | refine .cons ⟨_, rfl⟩ ?_)))
    (case u0 => rfl)
    (case e1 => k_is)
    (case x1 => k_is)
    (case y1 => rfl)
    (case d1 => rfl)
    (case s1 => decide)
    (case v1 => (repeat (first | exact .nil | refine .cons ⟨_, rfl⟩ ?_)))
    (case u1 => rfl)
    (case e2 => k_is)
    (case x2 => k_is)
    (case y2 => rfl)
    (case d2 => rfl)
    (case s2 => decide)
    (case v2 => (repeat (first | exact .nil | refine .cons ⟨_, rfl⟩ ?_)))
    (case u2 => rfl)
    (case e3 => k_is)
    (case x3 => k_is)
    (case y3 => rfl)
    (case d3 => rfl)
    (case s3 => decide)
    (case v3 => (repeat (first | exact .nil | refine .cons ⟨_, rfl⟩ ?_)))
    (case u3 => rfl)
    (case e4 => k_is)
    (case x4 => k_is)
    (case y4 => rfl)
    (case d4 => rfl)
    (case s4 => decide)
    (case v4 => (repeat (first | exact .nil | refine .cons ⟨_, rfl⟩ ?_)))
    (case u4 => rfl)
    (case e5 => k_is)
    (case x5 => k_is)
    (case y5 => rfl)
    (case d5 => rfl)
    (case s5 => decide)
    (case v5 => (repeat (first | exact .nil | refine .cons ⟨_, rfl⟩ ?_)))
    (case u5 => rfl)
    (case e6 => k_is)
    (case x6 => k_is)
    (case y6 => rfl)
    (case d6 => rfl)
    (case s6 => decide)
    (case v6 => (repeat (first | exact .nil | refine .cons ⟨_, rfl⟩ ?_)))
    (case u6 => rfl)
    (case e7 => k_is)
    (case x7 => k_is)
    (case y7 => rfl)
    (case d7 => rfl)
    (case s7 => decide)
    (case v7 => (repeat (first | exact .nil | refine .cons ⟨_, rfl⟩ ?_)))
    (case u7 => rfl)
    (case e8 => k_is)
    (case x8 => k_is)
    (case y8 => rfl)
    (case d8 => rfl)
    (case s8 => decide)
    (case v8 => (repeat (first | exact .nil | refine .cons ⟨_, rfl⟩ ?_)))
    (case u8 => rfl)
    (case e9 => k_is)
    (case x9 => k_is)
    (case y9 => rfl)
    (case d9 => rfl)
    (case s9 => decide)
    (case v9 => (repeat (first | exact .nil | refine .cons ⟨_, rfl⟩ ?_)))
    (case u9 => rfl)
    (case e10 => k_is)
    (case x10 => k_is)
    (case y10 => rfl)
    (case d10 => rfl)
    (case s10 => decide)
    (case v10 => (repeat (first | exact .nil | refine .cons ⟨_, rfl⟩ ?_)))
    (case u10 => rfl)
    (case e11 => k_is)
    (case x11 => k_is)
    (case y11 => rfl)
    (case d11 => rfl)
    (case s11 => decide)
    (case v11 => (repeat (first | exact .nil | refine .cons ⟨_, rfl⟩ ?_)))
    (case u11 => rfl)
    (case zisinstance => k_is)
    (case zstr => k_is)
    (case zlen => k_is)
    (case zall => k_is)
    (case zany => k_is)
    (case zint => k_is)
    (case zzip => k_is)
    (case zrange => k_is)
    (case zlist => k_is)
    (case zmax => k_is)
    (case aNm => k_is)
    (case lNm => k_is)
    (case cNm => k_is)
    (case kNm => k_is)
    (case aFu => k_is)
    (case lFu => k_is)
    (case cFu => k_is)
    (case kFu => k_is)
    (case aCT => k_is)
    (case lCT => k_is)
    (case cCT => k_is)
    (case kCT => k_is)
    (case aIW => k_is)
    (case lIW => k_is)
    (case cIW => k_is)
    (case kIW => k_is)
    (case aRS => k_is)
    (case lRS => k_is)
    (case cRS => k_is)
    (case kRS => k_is)
    (case aRI => k_is)
    (case lRI => k_is)
    (case cRI => k_is)
    (case kRI => k_is)
    (case aRT => k_is)
    (case lRT => k_is)
    (case cRT => k_is)
    (case kRT => k_is)
    (case aRL => k_is)
    (case lRL => k_is)
    (case cRL => k_is)
    (case kRL => k_is)
    (case aRQ => k_is)
    (case lRQ => k_is)
    (case cRQ => k_is)
    (case kRQ => k_is)
    (case aWi => k_is)
    (case lWi => k_is)
    (case cWi => k_is)
    (case kWi => k_is)
    (case aTT => k_is)
    (case lTT => k_is)
    (case cTT => k_is)
    (case kTT => k_is)
    (case aLLf => k_is)
    (case lLLf => k_is)
    (case cLLf => k_is)
    (case kLLf => k_is)
    (case aLDr => k_is)
    (case lLDr => k_is)
    (case cLDr => k_is)
    (case kLDr => k_is)
    (case aLTr => k_is)
    (case lLTr => k_is)
    (case cLTr => k_is)
    (case kLTr => k_is)
    (case aLLe => k_is)
    (case lLLe => k_is)
    (case cLLe => k_is)
    (case kLLe => k_is)
    (case aLTo => k_is)
    (case lLTo => k_is)
    (case cLTo => k_is)
    (case kLTo => k_is)
    (case aLNm => k_is)
    (case lLNm => k_is)
    (case cLNm => k_is)
    (case kLNm => k_is)
    (case aLKd => k_is)
    (case lLKd => k_is)
    (case cLKd => k_is)
    (case kLKd => k_is)
    (case aLWE => k_is)
    (case lLWE => k_is)
    (case cLWE => k_is)
    (case kLWE => k_is)
    (case aLPl => k_is)
    (case lLPl => k_is)
    (case cLPl => k_is)
    (case kLPl => k_is)
    (case aLBe => k_is)
    (case lLBe => k_is)
    (case cLBe => k_is)
    (case kLBe => k_is)
    (case aLRi => k_is)
    (case lLRi => k_is)
    (case cLRi => k_is)
    (case kLRi => k_is)
    (case aLa => k_is)
    (case lLa => k_is)
    (case cLa => k_is)
    (case kLa => k_is)
    (case hn => k_is)
    (case ht => k_is)
    (case aBQ => k_is)
    (case xLBQ => k_is)
    (case bvBQ => rfl)
    (case saBQ => k_is)
    (case gaBQ => k_is)
    (case ggBQ => k_is)
    (case a1BQ => k_is)
    (case t1BQ => k_is)
    (case kCBQ => k_is)
    (case eCBQ => k_is)
    (case tCBQ => k_is)
    (case hCBQ => k_is)
    (case cCBQ => k_is)
    (case mCBQ => k_is)
    (case lBQ => k_is)
    (case cBQ => k_is)
    (case kBQ => k_is)
    (case noBQplace => k_is)
    (case iCBQ => k_is)
    (case sCBQ => first | rfl | k_is)
    (case aCPt => k_is)
    (case pgCPt => k_is)
    (case hdCPt => k_is)
    (case poCPt => k_is)
    (case saCPt => k_is)
    (case mkCPt => k_is)
    (case kcCPt => k_is)
    (case nCPttext_read => k_is)
    (case nCPtopened => k_is)
    (case nCPtplace => k_is)
    (case nCPtword => k_is)
    (case mPI => k_is)
    (case iPI => k_is)
    (case lPI => k_is)
    (case cPI => k_is)
    (case kPI => k_is)
    (case mPG => k_is)
    (case iPG => k_is)
    (case lPG => k_is)
    (case cPG => k_is)
    (case kPG => k_is)
    (case mPO => k_is)
    (case iPO => k_is)
    (case lPO => k_is)
    (case cPO => k_is)
    (case kPO => k_is)
    (case mPE => k_is)
    (case iPE => k_is)
    (case lPE => k_is)
    (case cPE => k_is)
    (case kPE => k_is)
    (case mPL => k_is)
    (case iPL => k_is)
    (case lPL => k_is)
    (case cPL => k_is)
    (case kPL => k_is)
    (case aCQ => k_is)
    (case pgCQ => k_is)
    (case hdCQ => k_is)
    (case poCQ => k_is)
    (case saCQ => k_is)
    (case mkCQ => k_is)
    (case kcCQ => k_is)
    (case nCQ_tree => k_is)
    (case nCQ_text => k_is)
    (case ccCQ => k_is)
    (case mmCQ => k_is)
    (case eCQ => k_is)
    (case suCQ => k_is)
    (case tyCQ => k_is)
    (case mQI => k_is)
    (case iQI => k_is)
    (case lQI => k_is)
    (case cQI => k_is)
    (case kQI => k_is)
