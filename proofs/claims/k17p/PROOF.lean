import PyProof.Rows.All
import HandS.ForMost
import HandS.ForExc
import HandS.RaiseMore
import HandS.IsInst
import HandS.Wide
import PyProof.ReprRoads
import HandS.TupMul
import HandS.Codes
import KE.KExcInit
import HandS.TupAny
import HandS.Style
import HandS.TupLe
import HandS.DeepEq
import PyProof.ReprLen
import PySem.Challenge.RW_sharedlets_k17_forms_of_addresses
set_option Elab.async false
set_option linter.all false
set_option maxRecDepth 100000
set_option maxHeartbeats 4000000
/-! ## Promises that are kept where no repr is under way; repr of data; a law's head -/
namespace Sl
open PySem PySem.Spec PyProof.Rows L2
/-- as FnOk, where the frames around are known to write nothing -/
structure FnG (P : Program) (w : World) (K : PySem.W.Frag) (mg : Str → Option Value) (base : Heap) (CX : CXT) (k : Nat) (f : Addr) (fd : FuncData) (ps : List Str) (sp : Sp) : Prop where
  size : ∀ xs G Q E, sp xs G Q E → xs.length = ps.length
  goes : ∀ A : Around, A.guards = some [] → ∀ (l : List Env) (z : Shared) (G : Hp) (ar : Args) (us : List Value) (xs : List V) (Q : VK) (E : XK), Room k A → Env0 P w K mg base A l z G →
    BindsTo z fd ar (ps.zip us) → Vals xs us → sp xs G Q E → codeAny (model P w) A (.call (.ref f) ar) (CR CX l P w G z Q E) z
theorem FnG.of {P : Program} {w : World} {K : PySem.W.Frag} {mg : Str → Option Value} {base : Heap} {CX : CXT} {k : Nat} {f : Addr} {fd : FuncData} {ps : List Str} {sp : Sp}
    (F : FnOk P w K mg base CX k f fd ps sp) : FnG P w K mg base CX k f fd ps sp :=
  ⟨F.len, fun A _ l z G ar us xs Q E a b c d e => F.run A l z G ar us xs Q E a b c d e⟩
section
variable {X : Cx} {CX : CXT} {k : Nat} {f : Addr} {fd : FuncData} {ps : List Str} {sp : Sp} {dvs : List V} {ds : List Value} {E : XK} {x : Str} {p pos : Pos} {e : Expr} {es : List Expr} {t : TA}
theorem goG {pins : List (Addr × Obj)} {σ : L2.St} {G : Hp} {z : Shared} {Q : VK} {us : List Value} {xs : List V} (hG : X.A.guards = some []) (F : FnG X.prog X.w X.K X.mg X.base CX k f fd ps sp) (hr : Room k X.A) (hb : Binds X.K fd ps ds)
    (hd : Vals dvs ds) (hx : Passes CX X E) (I : Inv X pins σ G z) (r : Vals xs us) (h : sp (xs ++ dvs) G Q E) :
    wpAny (model X.prog X.w) X.A (call (.ref f) us) (EP X pins σ Q) X.xe z := by
  have r' : Vals (xs ++ dvs) (us ++ ds) := r.append hd
  have n : (us ++ ds).length = ps.length := r'.length.symm.trans (F.size _ _ _ _ h)
  apply wpAny_call
  apply codeAny_mono (F.goes X.A hG X.stack z G ⟨us, []⟩ (us ++ ds) (xs ++ dvs) Q E hr I.env0 (hb z us I.kIn n) r' h)
  intro o z' q
  match o, q with
  | .error e, q => exact hx pins σ G z e z' I q
  | .ok (.ret u), q => exact I.after q
/-- f(e, ..), f of such a promise -/
theorem pe_callG (hG : X.A.guards = some []) (F : FnG X.prog X.w X.K X.mg X.base CX k f fd ps sp) (hr : Room k X.A) (hg : Gl X x) (hm : X.mg x = some (.ref f)) (hk : PySem.W.keepIn X.K (.ref f) = true) (hb : Binds X.K fd ps ds)
    (hd : Vals dvs ds) (hx : Passes CX X E) (ha : PA X (e :: es) t) (hdb : (x == ("__debug__" : Str)) = false := by decide)
    (he : starEach (e :: es) X.env = (false, eval e X.env) :: starEach es X.env := by rfl) (hpl : (backTo pos (starEach es X.env)).any (·.1) = false := by rfl) :
    PE X (.Call (.Name x p) (e :: es) [] pos) (tCall sp dvs E t) := by
  constructor
  intro pins z σ G Q I h
  apply wpAny_Call_Name_kw (ld_glob I hg hm ?_ hdb)
  apply PySem.W.callWith_K (h₀ := X.base) I.ok.mod.kin hk ?_ he hpl
  exact thn (ha.run pos pins z σ G _ I h) fun us z1 ⟨xs, G1, I1, r, q⟩ => ⟨I1.kIn, goG hG F hr hb hd hx I1 r q⟩
end
section
variable {P : Program} {w : World} {K : PySem.W.Frag} {mg : Str → Option Value} {base : Heap}
/-- a def by its body: as Fun.okX, the body may use that no repr is under way -/
theorem okG {x qual : Str} {st : Stmt} {f : Addr} {fd : FuncData} {N ps : List Str} {k : Nat} {sp : Sp} (F : Fun K x qual st f fd) (S : FnScope N ps (defScope st)) (size : ∀ xs G Q E, sp xs G Q E → xs.length = ps.length)
    (body : ∀ (cdv : Value) (A : Around) (l : List Env) (z : Shared) (G : Hp) (xs : List V) (Q : VK) (E : XK), A.guards = some [] → Room k (A.deeper (envOfC qual (defScope st) z.heap.objs.size f cdv)) → sp xs G Q E →
      ∃ t, PSs (cxOf (L2.CX P w) P w K mg base N qual (defScope st) f cdv A l z G E) (defBody st) t ∧ t { nx := fun _ G' => Q .non G', rt := Q } (start N xs) G) :
    FnG P w K mg base (L2.CX P w) (k + 1) f fd ps sp := by
  obtain ⟨oc, od, kV, doc, pm, an, cdv, ct, osl, rfl, lk, hcd⟩ := F.ex
  constructor
  · exact size
  intro A hG l z G ar us xs Q E hr e0 hb r hsp
  have hl := size _ _ _ _ hsp
  have inK : K.In z.heap := e0.mod.kin.keeps fun b o e => (e0.bs b o e).1
  have lim : z.heap.NoLimit := e0.mod.nolimit.keeps fun b o e => (e0.bs b o e).1
  have kinds : ∀ y ∈ ps.zip us, (defScope st).names.lookup y.1 = some .local ∨ ((defScope st).names.lookup y.1 = some .cell ∧ ((cellsFrom (z.heap.objs.size + 1) (defScope st).names []).lookup y.1).isSome = true) := by
    intro ⟨n, v⟩ hy
    cases S.par n (List.of_mem_zip hy).1 with
    | inl q => exact Or.inl q
    | inr q => exact Or.inr ⟨q, PySem.W.cellsFrom_some _ _ _ (Or.inl q)⟩
  apply codeAny_call_function hr.depth (inK _ _ lk) rfl S.co S.gen rfl (PySem.W.codeRec_of inK hcd) (hb _ _ _ _ ?_)
  apply wpAny_newFunctionEnv_cells S.kind kinds
  intro env he z1 y
  subst he
  refine ⟨lim.keeps y.toInCall.keep, codeAny_func ?_⟩
  obtain ⟨t, ht, hq⟩ := body cdv A l z G xs Q E hG (hr.deeper _) hsp
  have I0 := inv_start (CX := L2.CX P w) (N := N) (qual := qual) (scope := defScope st) (f := f) (cd := cdv) (E := E) S hr.hd e0 hl r y
  apply wpAny_mono (ht.run [] z1 (start N xs) G _ I0 hq) ?_ (fun e z' hz => hz)
  intro fl z' hz
  match fl, hz with
  | .ret u, ⟨v, σ', G', J, rv, q⟩ => exact ⟨v, G', J.os, J.bare, J.base, J.hok, rv, q⟩
  | .next, ⟨σ', G', J, q⟩ => exact ⟨V.non, G', J.os, J.bare, J.base, J.hok, rfl, q⟩
  | .brk, ⟨_, _, _, q⟩ => exact q.elim
  | .cont, ⟨_, _, _, q⟩ => exact q.elim
end
/-! ### heaps: lists may be filled, all else stays -/
/-- all that is tracked stays, but for what lists hold -/
def Ex (G G' : Hp) : Prop := ∀ b o, G b = some o → G' b = some o ∨ ((∃ l, o = .lst l) ∧ ∃ l', G' b = some (.lst l'))
theorem Ex.refl (G : Hp) : Ex G G := fun _ _ h => .inl h
theorem Ex.trans {G G1 G2 : Hp} (a : Ex G G1) (b : Ex G1 G2) : Ex G G2 := by
  intro c o h
  rcases a c o h with h1 | ⟨⟨l, e⟩, l1, h1⟩
  · exact b c o h1
  · rcases b c _ h1 with h2 | ⟨_, l2, h2⟩
    · exact .inr ⟨⟨l, e⟩, _, h2⟩
    · exact .inr ⟨⟨l, e⟩, _, h2⟩
theorem Ex.same {G G' : Hp} (h : Same G G') : Ex G G' := fun b o q => .inl (h b o q)
theorem Same.new {G : Hp} {p : Addr} {o : HO} (h : G p = none) : Same G (upd G p o) := fun b x e => by
  rw [upd_ne (ne_of_none e h)]
  exact e
/-- all but a stays -/
def Off (a : Addr) (G G' : Hp) : Prop := ∀ b o, b ≠ a → G b = some o → G' b = some o
theorem Off.refl (a : Addr) (G : Hp) : Off a G G := fun _ _ _ h => h
theorem Off.trans {a : Addr} {G G1 G2 : Hp} (x : Off a G G1) (y : Off a G1 G2) : Off a G G2 := fun b o n h => y b o n (x b o n h)
theorem Off.put {a : Addr} {G : Hp} {o : HO} : Off a G (upd G a o) := fun b x n e => by
  rw [upd_ne n]
  exact e
theorem Off.same {a : Addr} {G G' : Hp} (h : Same G G') : Off a G G' := fun b o _ q => h b o q
theorem Off.ex {a : Addr} {G G' : Hp} {l l' : List V} (h : Off a G G') (h1 : G a = some (.lst l)) (h2 : G' a = some (.lst l')) : Ex G G' := by
  intro b o q
  by_cases e : b = a
  · subst e
    rw [h1] at q
    cases q
    exact .inr ⟨⟨l, rfl⟩, l', h2⟩
  · exact .inl (h b o e q)
theorem Ex.tup {K : PySem.W.Frag} {G G' : Hp} {a : Addr} {xs : List V} (e : Ex G G') (h : SqT K G a xs) : SqT K G' a xs := by
  rcases h with (h | ⟨o, h⟩) | h
  · rcases e _ _ h with q | ⟨⟨_, z⟩, _⟩
    · exact .inl (.inl q)
    · cases z
  · rcases e _ _ h with q | ⟨⟨_, z⟩, _⟩
    · exact .inl (.inr ⟨o, q⟩)
    · cases z
  · exact .inr h
theorem Ex.ty {K : PySem.W.Frag} {G G' : Hp} {v : V} {t : Value} (e : Ex G G') (h : TyX K G v t) : TyX K G' v t := by
  cases h with
  | base b =>
    cases b with
    | non => exact .base .non
    | bl x => exact .base (.bl x)
    | int i => exact .base (.int i)
    | str x => exact .base (.str x)
    | flt x => exact .base (.flt x)
    | lst q =>
      rcases e _ _ q with q | ⟨_, l, q⟩
      · exact .base (.lst q)
      · exact .base (.lst q)
    | frz q =>
      rcases e _ _ q with q | ⟨⟨_, z⟩, _⟩
      · exact .base (.frz q)
      · cases z
    | tup q =>
      rcases e _ _ q with q | ⟨⟨_, z⟩, _⟩
      · exact .base (.tup q)
      · cases z
    | dK q =>
      rcases e _ _ q with q | ⟨⟨_, z⟩, _⟩
      · exact .base (.dK q)
      · cases z
    | dT q =>
      rcases e _ _ q with q | ⟨⟨_, z⟩, _⟩
      · exact .base (.dT q)
      · cases z
    | ins q cl ha hn htk hm =>
      rcases e _ _ q with q | ⟨⟨_, z⟩, _⟩
      · exact .base (.ins q cl ha hn htk hm)
      · cases z
  | byt b => exact .byt b
  | set q =>
    rcases e _ _ q with q | ⟨⟨_, z⟩, _⟩
    · exact .set q
    · cases z
  | kList a b => exact .kList a b
  | kTuple a b => exact .kTuple a b
  | kDict a b => exact .kDict a b
  | fTuple q =>
    rcases e _ _ q with q | ⟨⟨_, z⟩, _⟩
    · exact .fTuple q
    · cases z
  | fDict q =>
    rcases e _ _ q with q | ⟨⟨_, z⟩, _⟩
    · exact .fDict q
    · cases z
/-! ### values of any kind: what lists and dicts hold is left out -/
inductive D where
  | non
  | bl (b : Bool)
  | int (i : Int)
  | str (x : Str)
  | tup (ds : List D)
  | lst
  | dct
def D.ty : D → String
  | .non => "NoneType"
  | .bl _ => "bool"
  | .int _ => "int"
  | .str _ => "str"
  | .tup _ => "tuple"
  | .lst => "list"
  | .dct => "dict"
mutual
inductive Rdd (K : PySem.W.Frag) (H : Hp) : V → D → Prop
  | non : Rdd K H .non .non
  | bl (b : Bool) : Rdd K H (.bl b) (.bl b)
  | int (i : Int) : Rdd K H (.int i) (.int i)
  | str (x : Str) : Rdd K H (.str x) (.str x)
  | tup {a : Addr} {xs : List V} {ds : List D} : SqT K H a xs → RddAll K H xs ds → ds.length ≤ 100000 → Rdd K H (.ref a) (.tup ds)
  | lst {v : V} : TyX K H v (.type "list") → Rdd K H v .lst
  | dct {v : V} : TyX K H v (.type "dict") → Rdd K H v .dct
inductive RddAll (K : PySem.W.Frag) (H : Hp) : List V → List D → Prop
  | nil : RddAll K H [] []
  | cons {v : V} {vs : List V} {d : D} {ds : List D} : Rdd K H v d → RddAll K H vs ds → RddAll K H (v :: vs) (d :: ds)
end
section
variable {K : PySem.W.Frag} {H H' : Hp}
theorem sqT_ty {a : Addr} {xs : List V} (h : SqT K H a xs) : TyX K H (.ref a) (.type "tuple") := by
  rcases h with (h | ⟨o, h⟩) | ⟨o, its, n, hk, hc, _⟩
  · exact .base (.tup h)
  · exact .fTuple h
  · exact .kTuple hk hc
theorem Rdd.ty {v : V} {d : D} (h : Rdd K H v d) : TyX K H v (.type d.ty) := by
  cases h with
  | non => exact .base .non
  | bl b => exact .base (.bl b)
  | int i => exact .base (.int i)
  | str x => exact .base (.str x)
  | tup hs _ _ => exact sqT_ty hs
  | lst h => exact h
  | dct h => exact h
mutual
theorem Rdd.ex (e : Ex H H') : ∀ (d : D) {v : V}, Rdd K H v d → Rdd K H' v d
  | .non, _, h => by cases h; exact .non
  | .bl b, _, h => by cases h; exact .bl b
  | .int i, _, h => by cases h; exact .int i
  | .str x, _, h => by cases h; exact .str x
  | .tup ds, _, h => by
    cases h with
    | tup hs ha z => exact .tup (e.tup hs) (RddAll.ex e ds ha) z
  | .lst, _, h => by
    cases h with
    | lst q => exact .lst (e.ty q)
  | .dct, _, h => by
    cases h with
    | dct q => exact .dct (e.ty q)
theorem RddAll.ex (e : Ex H H') : ∀ (ds : List D) {vs : List V}, RddAll K H vs ds → RddAll K H' vs ds
  | [], _, h => by cases h; exact .nil
  | d :: ds, _, h => by
    cases h with
    | cons h1 h2 => exact .cons (Rdd.ex e d h1) (RddAll.ex e ds h2)
end
theorem RddAll.length : ∀ {vs : List V} {ds : List D}, RddAll K H vs ds → vs.length = ds.length
  | _, _, .nil => rfl
  | _, _, .cons _ h => by rw [List.length_cons, List.length_cons, h.length]
theorem RddAll.get : ∀ {vs : List V} {ds : List D} {i : Nat} {v : V}, RddAll K H vs ds → vs[i]? = some v → ∃ d, ds[i]? = some d ∧ Rdd K H v d
  | _, _, i, v, .nil, h => by simp at h
  | _, _, 0, v, .cons h1 h2, h => by
    have e := Option.some.inj h
    subst e
    exact ⟨_, rfl, h1⟩
  | _, _, i + 1, v, .cons h1 h2, h => RddAll.get (i := i) h2 (by rw [List.getElem?_cons_succ] at h; exact h)
/-- isinstance(v, t), t a built-in class -/
def isT (a b : String) : Bool := (kitB a b).getD false
def isA (t : String) (d : D) : Bool := isT d.ty t
theorem kit_isA {d : D} {t : String} (h : ∀ s ∈ ["NoneType", "bool", "int", "str", "tuple", "list", "dict"], (kitB s t).isSome = true) : PySem.W.kitOne K (.type d.ty) (.type t) = some (isA t d) := by
  have q : (kitB d.ty t).isSome = true := by
    apply h
    cases d <;> simp [D.ty]
  apply kit_ty
  unfold isA isT
  cases e : kitB d.ty t with
  | none => rw [e] at q; cases q
  | some b => rfl
theorem isA_int (d : D) : isA "int" d = match d with | .bl _ => true | .int _ => true | _ => false := by
  cases d
  · exact (by decide +kernel : isT "NoneType" "int" = false)
  · exact (by decide +kernel : isT "bool" "int" = true)
  · exact (by decide +kernel : isT "int" "int" = true)
  · exact (by decide +kernel : isT "str" "int" = false)
  · exact (by decide +kernel : isT "tuple" "int" = false)
  · exact (by decide +kernel : isT "list" "int" = false)
  · exact (by decide +kernel : isT "dict" "int" = false)
theorem isA_bool (d : D) : isA "bool" d = match d with | .bl _ => true | _ => false := by
  cases d
  · exact (by decide +kernel : isT "NoneType" "bool" = false)
  · exact (by decide +kernel : isT "bool" "bool" = true)
  · exact (by decide +kernel : isT "int" "bool" = false)
  · exact (by decide +kernel : isT "str" "bool" = false)
  · exact (by decide +kernel : isT "tuple" "bool" = false)
  · exact (by decide +kernel : isT "list" "bool" = false)
  · exact (by decide +kernel : isT "dict" "bool" = false)
theorem isA_tuple (d : D) : isA "tuple" d = match d with | .tup _ => true | _ => false := by
  cases d
  · exact (by decide +kernel : isT "NoneType" "tuple" = false)
  · exact (by decide +kernel : isT "bool" "tuple" = false)
  · exact (by decide +kernel : isT "int" "tuple" = false)
  · exact (by decide +kernel : isT "str" "tuple" = false)
  · exact (by decide +kernel : isT "tuple" "tuple" = true)
  · exact (by decide +kernel : isT "list" "tuple" = false)
  · exact (by decide +kernel : isT "dict" "tuple" = false)
end
/-! ### comprehensions whose turns change nothing that stood: item i gives the i-th of ys (none: it is left out) -/
theorem same_off {D : Addr} {H H' : Hp} (h : Off D H H') (n : H D = none) : Same H H' := fun b o e => h b o (ne_of_none e n) e
theorem lcT {K : PySem.W.Frag} {a : Addr} {xs : List V} {g : TG} {tt : TT} {te : TE} {vs : List Nat} {σ : L2.St} {H1 : Hp} {D : Addr} {Qd : Hp → Prop} (ys : List (Option V)) (hlen : ys.length = xs.length) (hz : xs.length ≤ 100000) (hT : SqT K H1 a xs) (hD : H1 D = none)
    (hs : ∀ (i : Nat) (x : V) (H : Hp) (Q : VK) (Z : Hp → Prop), xs[i]? = some x → Same H1 H → (∀ y H', ys[i]? = some (some y) → Same H H' → Q y H') → (∀ H', ys[i]? = some none → Same H H' → Z H') →
      g x (wipe σ vs) H fun σ2 H2 => wipe σ2 vs = wipe σ vs ∧ tt σ2 H2 fun b H3 => if b = true then te σ2 H3 Q else Z H3)
    (hd : ∀ H, Same H1 H → H D = some (.lst (ys.filterMap id)) → Qd H) :
    ∃ W : Nat → Nat → Hp → Prop, (∃ m, W 0 m (upd H1 D (.lst []))) ∧ ∀ i m H, W i m H →
      ((Itt K a).stop i H ∧ Qd H) ∨ ((Itt K a).go i H ∧ ∃ Nx : Hp → Prop, (∀ H', Nx H' → ∃ m', m' < m ∧ W (i + 1) m' H') ∧ ∀ x H', (Itt K a).yld i H x H' → g x (wipe σ vs) H' fun σ2 H2 => wipe σ2 vs = wipe σ vs ∧ tt σ2 H2 fun b H3 =>
        if b = true then te σ2 H3 fun y H4 => ∃ acc, H4 D = some (.lst acc) ∧ acc.length < sizeLine ∧ Nx (upd H4 D (.lst (acc ++ [y]))) else Nx H3) := by
  have acc_len : ∀ i, ((ys.take i).filterMap id).length < sizeLine := fun i => by
    have h1 := List.length_filterMap_le id (ys.take i)
    have h2 : (ys.take i).length ≤ ys.length := by rw [List.length_take]; omega
    have h3 : sizeLine = 16777216 := sizeLine_eq
    omega
  refine lc_tup (fun i H => Off D H1 H ∧ H D = some (.lst ((ys.take i).filterMap id))) ⟨.put, upd_same⟩ (fun i H _ ⟨h, _⟩ => (Ex.same (same_off h hD)).tup hT) (fun i x H hx ⟨ho, hl⟩ => ?_) (fun H ⟨ho, hl⟩ => ?_)
  · have hi : i < xs.length := (List.getElem?_eq_some_iff.mp hx).1
    refine hs i x H _ _ hx (same_off ho hD) (fun y H' hy sm => ⟨_, sm _ _ hl, acc_len i, ?_, ?_⟩) (fun H' hy sm => ⟨?_, ?_⟩)
    · exact (ho.trans (.same sm)).trans .put
    · rw [upd_same, List.take_add_one, hy, List.filterMap_append]
      rfl
    · exact ho.trans (.same sm)
    · rw [sm _ _ hl, List.take_add_one, hy, List.filterMap_append]
      simp
  · refine hd H (same_off ho hD) ?_
    rw [hl, ← hlen, List.take_length]
end Sl

set_option Elab.async false
set_option linter.all false
set_option maxRecDepth 100000
set_option maxHeartbeats 1000000
namespace Sl
open PySem PySem.Spec PyProof.Rows L2
/-! ### more rules: a list takes a tuple's items; tuples repeated any number of times -/
theorem extT (l : Addr) (xs : Array Value) (n : Nat) (b : Addr) (ys : Array Value) (m : Nat) (dd : Option Addr) (sl : Array (Option Value)) (a0 : ¬(!xs.isEmpty && Builtin.List.listTooLong (xs.size + ys.size)) = true) (a1 : xs.size ≤ sizeLine)
    (a2 : (xs ++ ys).size ≤ sizeLine + 1) :
    Meets (Builtin.«list.extend» ⟨[.ref l, .ref b], []⟩) (fun _ R z => z.heap.get? l = some { cls := .type "list", dict := none, data := .seq xs n, slots := #[] } ∧
      z.heap.get? b = some { cls := .type "tuple", dict := dd, data := .seq ys m, slots := sl } ∧ R (.ok (.ret Value.none)) { z with heap := z.heap.update l (Obj.mapSeq fun x => x ++ ys), toks := z.toks }) := by
  refine .of_wp fun prog w A R z h => ?_
  obtain ⟨hp, g, d, tk, os⟩ := z
  obtain ⟨hl, hb, h⟩ := h
  have f1 := AutoSeq1.idx_int
  have f2 := AutoSeq1.sub_tuple_tuple
  have f3 := AutoSeq1.sub_list_list
  have f4 := AutoSeq1.sub_tuple_list
  have f5 := AutoSeq1.sub_list_tuple
  wp_walk using (wpAny_updateSeq hl rfl (hz := a1) (_hz' := a2)), wpAny_loadPart' hl, wpAny_loadPart' hb
  exact ⟨_, rfl, h⟩
section
variable {X : Cx}
def rExtT (K : PySem.W.Frag) : V → List V → Hp → VK → Prop := fun x vs H Q => ∃ l b xs zs, x = .ref l ∧ vs = [.ref b] ∧ H l = some (.lst xs) ∧ SqT K H b zs ∧ xs.length + zs.length ≤ sizeLine ∧ Q .non (upd H l (.lst (xs ++ zs)))
theorem mt_extendT : MtM X "list.extend" (rExtT X.K) := by
  intro pins z σ G x vs v us Q I rx rv h
  obtain ⟨l, b, xs, zs, rfl, rfl, hG, hB, hz, q⟩ := h
  cases rx
  obtain ⟨u, rfl, ru⟩ := rv.one
  cases ru
  obtain ⟨y, its, n, r, hl, e⟩ := I.lstM hG
  obtain ⟨its2, r2, ⟨⟨cls, dd, data, sl⟩, ho, hc, n2, hd⟩, hs⟩ := I.tuple hB
  simp only at hc hd
  subst hc hd
  have l2 := r2.length
  have sz : its.toArray.size + its2.toArray.size ≤ sizeLine := by
    simp only [List.size_toArray]
    omega
  have short : ¬ (!its.toArray.isEmpty && Builtin.List.listTooLong (its.toArray.size + its2.toArray.size)) = true := by
    rw [notLongL sz]
    simp
  refine call_meets F.slot_list_extend ⟨_, e, rfl⟩ F.entry_list_extend (F.args_list_extend_2 _ _) (extT l its.toArray n b its2.toArray n2 dd sl short (by simp only [List.size_toArray]; omega) (by rw [Array.size_append]; omega)) ⟨e, ho, ?_⟩
  refine ⟨.non, _, I.lset (its' := its ++ its2) hG e (by simp) (r.append r2) ?_, rfl, q⟩
  rw [List.length_append]
  exact hz
theorem mulT1 (l : Addr) (xs : Array Value) (n : Nat) (dd : Option Addr) (sl : Array (Option Value)) (u : Tok) :
    Meets (Builtin.«tuple.__mul__» ⟨[.ref l, .int 1 u], []⟩) (fun _ R z => z.heap.get? l = some { cls := .type "tuple", dict := dd, data := .seq xs n, slots := sl } ∧ R (.ok (.ret (Value.ref l))) z) := by
  refine .of_wp fun prog w A R z h => ?_
  obtain ⟨hp, g, d, tk, os⟩ := z
  obtain ⟨hl, h⟩ := h
  have f1 := AutoSeq1.idx_int
  have c1 : (xs.isEmpty || (1 : Int) == 1) = true := by simp
  wp_walk using wpAny_loadPart' hl
  exact ⟨_, rfl, h⟩
theorem mulT0 (l : Addr) (xs : Array Value) (n : Nat) (dd : Option Addr) (sl : Array (Option Value)) (u : Tok) (hne : xs.isEmpty = false) :
    Meets (Builtin.«tuple.__mul__» ⟨[.ref l, .int 0 u], []⟩) (fun _ R z => z.heap.get? l = some { cls := .type "tuple", dict := dd, data := .seq xs n, slots := sl } ∧
      R (.ok (.ret (Value.ref z.heap.objs.size))) { z with heap := z.heap.push { cls := Value.type "tuple", data := Data.seq #[] }, toks := z.toks }) := by
  refine .of_wp fun prog w A R z h => ?_
  obtain ⟨hp, g, d, tk, os⟩ := z
  obtain ⟨hl, h⟩ := h
  have f1 := AutoSeq1.idx_int
  wp_walk using wpAny_loadPart' hl
  exact ⟨_, rfl, h⟩
/-- a tuple with items, repeated 0, 1 or more times -/
def rRepA (K : PySem.W.Frag) : R2 := fun x y G Q => ∃ l k xs, x = .ref l ∧ y = .int k ∧ SqT K G l xs ∧ xs ≠ [] ∧ 0 ≤ k ∧ k ≤ 1000 ∧ xs.length ≤ 1000 ∧
  (k = 1 → Q (.ref l) G) ∧ (k ≠ 1 → ∀ p, G p = none → Q (.ref p) (upd G p (.tup (List.replicate k.toNat xs).flatten)))
theorem op_repTA : OpR X (binaryOp .Mult) (rRepA X.K) := by
  intro pins z σ G x y v u Q I rx ry h
  obtain ⟨l, k, xs, rfl, rfl, hT, hne, h0, h1, hz, q1, q2⟩ := h
  by_cases k2 : 2 ≤ k
  · exact op_repT pins z σ G _ _ _ _ Q I rx ry ⟨l, k, xs, rfl, rfl, hT, hne, k2, h1, hz, q2 (by omega)⟩
  · cases rx
    obtain ⟨t, rfl⟩ := ry
    obtain ⟨its, r, ⟨⟨cls, dd, data, sl⟩, ho, hc, n, hd⟩, hs⟩ := I.tuple hT
    simp only at hc hd
    subst hc hd
    have hn : its.toArray.isEmpty = false := by
      cases its with
      | nil =>
        have e := r.length
        exact absurd (List.eq_nil_of_length_eq_zero e) hne
      | cons a b => rfl
    rcases (by omega : k = 0 ∨ k = 1) with rfl | rfl
    · refine wpAny_binaryOp_repeat_ref (T := "tuple") (U := "int") (by decide) ⟨_, ho, rfl⟩ (fun s' => typeIs_int s' 0 t) noFill_tuple_mul F.fills_int_mul F.slot_int_rmul repeat_tuple F.slot_int_index.lookup
        (call_meets F.slot_int_rmul (typeIs_int z 0 t) F.entry_int_rmul (F.args_int_rmul_2 _ _) (int_rmul_tuple 0 t l its.toArray n dd sl)
          ⟨ho, rfl, ⟨_, ho, rfl⟩, call_meets F.slot_tuple_mul ⟨_, ho, rfl⟩ F.entry_tuple_mul (F.args_tuple_mul_2 _ _) (mulT0 l its.toArray n dd sl t hn) ⟨ho, ?_⟩⟩)
      refine ⟨.ref z.heap.objs.size, _, I.laid (t' := z.toks) (o := .tup []) (fun b ob q => Heap.get?_push_of_some _ q) (Nat.le_refl _) ?_, rfl, q2 (by omega) _ (I.hok.fresh (Nat.le_refl _))⟩
      exact ⟨Nat.zero_le _, [], .nil, IsTup.new _ _⟩
    · refine wpAny_binaryOp_repeat_ref (T := "tuple") (U := "int") (by decide) ⟨_, ho, rfl⟩ (fun s' => typeIs_int s' 1 t) noFill_tuple_mul F.fills_int_mul F.slot_int_rmul repeat_tuple F.slot_int_index.lookup
        (call_meets F.slot_int_rmul (typeIs_int z 1 t) F.entry_int_rmul (F.args_int_rmul_2 _ _) (int_rmul_tuple 1 t l its.toArray n dd sl)
          ⟨ho, rfl, ⟨_, ho, rfl⟩, call_meets F.slot_tuple_mul ⟨_, ho, rfl⟩ F.entry_tuple_mul (F.args_tuple_mul_2 _ _) (mulT1 l its.toArray n dd sl t) ⟨ho, ?_⟩⟩)
      exact ⟨.ref l, G, I, rfl, q1 rfl⟩
end
end Sl

set_option Elab.async false
set_option linter.all false
set_option maxRecDepth 100000
set_option maxHeartbeats 1000000
/-! ## The first field of an exception of one's own, whatever built-in class it comes from -/
namespace PySem
namespace ErX
open Builtin Builtin.ObjectAttr
open PySem.W PySem.Calls PyProof.Rows PySem.HandSPX
section
variable {prog : Program} {w : World} {A : Around} {R : Result → Shared → Prop} {hp : Heap} {g : Array GenState} {d : Drawn} {t : Nat} {os : OsState}
theorem osa_first {K : Frag} {f : Str} {tk : Tok} {v : Value} {x C : Addr} {fv : Array Value} {cd : ClassData} (inK : K.In hp) (ox : hp.get? x = some { cls := .ref C, data := .fields fv }) (cC : clsIn K C = some cd)
    (pas : ∀ self, refuseLoop self "__setattr__" cd.mro = pure ()) (ne : cd.mro.isEmpty = false) (ob : cd.mro.contains (.type "object") = true) (hd : cd.hasDict = true) (nf : findIn K (.ref C) f = some none)
    (q : ∀ h' tk' dx, (∀ b o, b ≠ x → hp.get? b = some o → h'.get? b = some o) → hp.objs.size ≤ dx → dx ≠ x → h'.get? x = some { cls := .ref C, dict := some dx, data := .fields fv } →
      h'.Ns1 dx (fun y => if y = f then some v else none) → R (.ok (.ret .none)) ⟨h', g, d, tk', os⟩) :
    codeAny (model prog w) A (.call (.builtin "object.__setattr__") ⟨[.ref x, .str f tk, v], []⟩) R ⟨hp, g, d, t, os⟩ := by
  have xs : x ≠ hp.objs.size := Nat.ne_of_lt (Heap.lt_size ox)
  have inst : InstAt hp x { cls := .ref C, data := .fields fv } C none := ⟨ox, rfl, rfl, trivial⟩
  have SO := F.store_object
  have is_obj : Looks (model prog w) hp (isInstance (.ref x) (.type "object")) true :=
    inst.type.andThen (looks_mroIn inK (by unfold mroIn; rw [cC, Option.bind_some, if_neg (by rw [ne]; decide), ob]))
  apply codeAny_call_builtin SO.slot.plain SO.entry
  apply @check_slot (model prog w) _ _ ⟨hp, g, d, t, os⟩ "object.__setattr__" "object" "__setattr__" (.ref x) [.str f tk, v] [] _ SO.kind SO.split is_obj (SO.args (.ref x) (.str f tk) v)
  have its_mro : Looks (model prog w) hp (mroOf (.ref C)) cd.mro := (looks_clsIn inK cC).andThen .now
  have its_cls : Looks (model prog w) hp (classData C) cd := looks_clsIn inK cC
  have nobody : Looks (model prog w) hp (storeTaker? none) none := .now
  rw [osa_eq, refuse_eq]
  refine wpAny_bind (wpAny_bind (inst.type.at (wpAny_bind (its_mro.at ?one))))
  case' one => skip
  rw [pas]
  refine wpAny_pure (wpAny_bind (inst.type.at (wpAny_bind ((looks_findIn inK nf).at (wpAny_bind (nobody.at ?_))))))
  show wpAny _ _ (storeInOwnDict (.ref x) (.ref C) (.str f tk) f v false) _ _ _
  obtain ⟨c1, c2, c3, c4, c5, c6, c7, c8, c9, c10, c11⟩ := cd
  dsimp only at hd
  subst hd
  unfold storeInOwnDict ownDictForStores
  repeat (first | with_reducible refine store_in_new ?_ ?_ | with_reducible refine wpAny_loadPart_at ox ?_ | with_reducible refine its_cls.at ?_ | wp_step)
  · exact ⟨_, #[], _, (Heap.get?_update_ne _ _ _ _ xs.symm).trans (Heap.get?_push_at rfl rfl), rfl, fun e he => absurd he (by simp), fun _ => rfl⟩
  · intro h' tk' ns sb
    have ox1 : (hp.push { cls := .type "dict", data := .dict #[] }).get? x = some { cls := .ref C, data := .fields fv } := Heap.get?_push_of_some _ ox
    apply q h' tk' hp.objs.size _ (Nat.le_refl _) xs.symm _ ns
    · intro b o nb e
      rw [sb.2 b (Nat.ne_of_lt (Heap.lt_size e)), Heap.get?_update_ne _ _ _ _ nb]
      exact Heap.get?_push_of_some _ e
    · rw [sb.2 x xs]
      exact Heap.get?_update_self _ ox1 rfl
end
end ErX
end PySem

set_option Elab.async false
set_option linter.all false
set_option maxRecDepth 100000
set_option maxHeartbeats 1000000
/-! ## Comparisons with empty sequences, repr of data, a law's head -/
namespace Sl
open PySem PySem.Spec PyProof.Rows L2
/-! ### t == (), l == [] : only whether anything is in it -/
theorem eqT0 (l : Addr) (xs : Array Value) (n : Nat) (b : Addr) (m : Nat) (dd d2 : Option Addr) (sl s2 : Array (Option Value)) :
    Meets (Builtin.«tuple.__eq__» ⟨[.ref l, .ref b], []⟩) (fun _ R z => z.heap.get? l = some { cls := .type "tuple", dict := dd, data := .seq xs n, slots := sl } ∧ z.heap.get? b = some { cls := .type "tuple", dict := d2, data := .seq #[] m, slots := s2 } ∧
      R (.ok (.ret (.bool (decide (xs.size = 0))))) z) := by
  refine .of_wp fun prog w A R z h => ?_
  obtain ⟨hp, g, d, tk, os⟩ := z
  obtain ⟨hl, hb, h⟩ := h
  have f2 := AutoSeq1.sub_tuple_tuple
  obtain ⟨ys⟩ := xs
  cases ys with
  | nil =>
    wp_walk using wpAny_loadPart' hl, wpAny_loadPart' hb
    exact ⟨_, rfl, h⟩
  | cons y ys =>
    wp_walk using wpAny_loadPart' hl, wpAny_loadPart' hb
    refine ⟨_, rfl, ?_⟩
    have e1 : decide ((⟨y :: ys⟩ : Array Value).size = 0) = false := decide_eq_false (by simp)
    rw [e1] at h
    have e2 : Builtin.Tuple.tupleCompareSizes CmpOp.Eq (⟨y :: ys⟩ : Array Value).size (#[] : Array Value).size = .bool false := by
      unfold Builtin.Tuple.tupleCompareSizes
      simp
    rw [e2]
    exact h
theorem eqL0 (l : Addr) (xs : Array Value) (n : Nat) (b : Addr) (m : Nat) (dd d2 : Option Addr) (sl s2 : Array (Option Value)) (hne : (xs.size != 0) = true) :
    Meets (Builtin.«list.__eq__» ⟨[.ref l, .ref b], []⟩) (fun _ R z => z.heap.get? l = some { cls := .type "list", dict := dd, data := .seq xs n, slots := sl } ∧ z.heap.get? b = some { cls := .type "list", dict := d2, data := .seq #[] m, slots := s2 } ∧
      R (.ok (.ret (.bool false))) z) := by
  refine .of_wp fun prog w A R z h => ?_
  obtain ⟨hp, g, d, tk, os⟩ := z
  obtain ⟨hl, hb, h⟩ := h
  have f2 := AutoSeq1.sub_list_list
  have e0 : (xs.size != (#[] : Array Value).size) = true := hne
  wp_walk using wpAny_loadPart' hl, wpAny_loadPart' hb
  exact ⟨_, rfl, h⟩
section
variable {X : Cx}
/-- t == () -/
def rEqT0 (K : PySem.W.Frag) : R2 := fun x y G Q => ∃ a b xs, x = .ref a ∧ y = .ref b ∧ SqT K G a xs ∧ SqT K G b [] ∧ Q (.bl xs.isEmpty) G
theorem op_eqT0 (hu : X.A.units < cLine) : OpR X (compareOp .Eq) (rEqT0 X.K) := by
  intro pins z σ G x y v u Q I rx ry h
  obtain ⟨a, b, xs, rfl, rfl, ha, hb, q⟩ := h
  cases rx
  cases ry
  obtain ⟨its, r, ⟨⟨c1, dd, data, sl⟩, ho, hc, n, hd⟩, _⟩ := I.tuple ha
  obtain ⟨its2, r2, ⟨⟨c2, d2, data2, s2⟩, ho2, hc2, n2, hd2⟩, _⟩ := I.tuple hb
  simp only at hc hd hc2 hd2
  subst hc hd hc2 hd2
  cases r2
  have e : decide (its.toArray.size = 0) = xs.isEmpty := by
    rw [List.size_toArray, ← r.length]
    cases xs <;> rfl
  have m := eqT0 a its.toArray n b n2 dd d2 sl s2
  rw [e] at m
  exact wpAny_richCompare_same_room (op := .Eq) ⟨_, ho, rfl⟩ ⟨_, ho2, rfl⟩ F.slot_tuple_eq (call_meets F.slot_tuple_eq ⟨_, ho, rfl⟩ F.entry_tuple_eq (F.args_tuple_eq_2 _ _) m
    ⟨ho, ho2, (fun q => nomatch q), .bl _, G, I, rfl, q⟩) hu
/-- l == [] -/
def rEqL0 (K : PySem.W.Frag) : R2 := fun x y G Q => ∃ a b xs, x = .ref a ∧ y = .ref b ∧ SqL K G a xs ∧ SqL K G b [] ∧ Q (.bl xs.isEmpty) G
theorem op_eqL0 (hu : X.A.units + 64 < cLine) : OpR X (compareOp .Eq) (rEqL0 X.K) := by
  intro pins z σ G x y v u Q I rx ry h
  obtain ⟨a, b, xs, rfl, rfl, ha, hb, q⟩ := h
  cases xs with
  | nil => exact op_eqD hu pins z σ G _ _ _ _ Q I rx ry ⟨.list [], .list [], .lst ha .nil, .lst hb .nil, rfl, rfl, q⟩
  | cons x0 xs =>
    cases rx
    cases ry
    obtain ⟨its, r, p1, _⟩ := I.list ha
    obtain ⟨its2, r2, p2, _⟩ := I.list hb
    obtain ⟨⟨c1, dd, data, sl⟩, ho, hc, n, hd⟩ := p1.isList
    obtain ⟨⟨c2, d2, data2, s2⟩, ho2, hc2, n2, hd2⟩ := p2.isList
    simp only at hc hd hc2 hd2
    subst hc hd hc2 hd2
    cases r2
    have hne : (its.toArray.size != 0) = true := by
      rw [List.size_toArray, ← r.length]
      rfl
    exact wpAny_richCompare_same_room (op := .Eq) ⟨_, ho, rfl⟩ ⟨_, ho2, rfl⟩ F.slot_list_eq (call_meets F.slot_list_eq ⟨_, ho, rfl⟩ F.entry_list_eq (F.args_list_eq_2 _ _) (eqL0 a its.toArray n b n2 dd d2 sl s2 hne)
      ⟨ho, ho2, (fun q => nomatch q), .bl _, G, I, rfl, q⟩) (by omega)
/-! ### repr of data -/
/-- repr(v), v data of a bounded depth whose text is not too long -/
def rRepr (K : PySem.W.Frag) : List V → Hp → VK → Prop := fun xs H Q => ∃ v d, xs = [v] ∧ Dp K H v d ∧ d.showable = true ∧ d.depth ≤ 40 ∧ d.shown.length ≤ sizeLine ∧ Q (.str d.shown) H
theorem noDict {K : PySem.W.Frag} {H : Hp} : ∀ (d : PyData) (v : V), Dp K H v d → d.hasDict = false
  | .none, _, _ => by simp only [PyData.hasDict]
  | .bool _, _, _ => by simp only [PyData.hasDict]
  | .int _, _, _ => by simp only [PyData.hasDict]
  | .str _, _, _ => by simp only [PyData.hasDict]
  | .list ds, _, h => by
    cases h with
    | lst _ ha =>
      simp only [PyData.hasDict]
      exact go ds _ ha
  | .tuple ds, _, h => by
    cases h with
    | tup _ ha =>
      simp only [PyData.hasDict]
      exact go ds _ ha
  | .dict _, _, h => by cases h
where
  go : ∀ (ds : List PyData) (vs : List V), DpAll K H vs ds → PyData.hasDictAll ds = false
  | [], _, _ => by simp only [PyData.hasDictAll]
  | d :: ds, _, h => by
    cases h with
    | cons h1 h2 =>
      simp only [PyData.hasDictAll]
      rw [noDict d _ h1, go ds _ h2]
      rfl
theorem call_repr {k : Nat} (hG : X.A.guards = some []) (hr : Room k X.A) : CallR X (.builtin "repr") (rRepr X.K) := by
  intro pins z σ H xs us Q I r h
  obtain ⟨v, d, rfl, hd, hs, hdp, hz, q⟩ := h
  obtain ⟨u, rfl, ru⟩ := vals1 r
  have hu := hr.units
  cases hd with
  | non =>
    cases ru
    exact PySem.P.repr_of_none ⟨.str _, H, I.tok _, ⟨_, rfl⟩, q⟩
  | bl b =>
    cases ru
    exact PySem.P.repr_of_bool ⟨.str _, H, I.tok _, ⟨_, rfl⟩, by simpa only [PyData.shown] using q⟩
  | int i =>
    obtain ⟨t, rfl⟩ := ru
    exact PySem.P.repr_of_int (of_decide_eq_true (by simpa only [PyData.showable] using hs)) ⟨.str _, H, I.tok _, ⟨_, rfl⟩, by simpa only [PyData.shown] using q⟩
  | str x =>
    obtain ⟨t, rfl⟩ := ru
    simp only [PyData.shown] at q hz
    exact PySem.P.repr_of_str ⟨.str _, H, I.tok _, ⟨_, rfl⟩, q⟩ hz
  | @lst a ys ds h1 h2 =>
    cases ru
    obtain ⟨as, rd⟩ := Dp.reads I (.list ds) (.ref a) (.ref a) (.lst h1 h2) rfl
    refine repr_of_reads' rd hs (PyData.noDict_hsm (noDict (.list ds) (.ref a) (.lst h1 h2))) hG (by omega) (fun _ _ e => e) (fun h' u tk hk => ?_) hz
    exact ⟨.str _, H, I.kept hk, ⟨u, rfl⟩, q⟩
  | @tup a ys ds h1 h2 =>
    cases ru
    obtain ⟨as, rd⟩ := Dp.reads I (.tuple ds) (.ref a) (.ref a) (.tup h1 h2) rfl
    refine repr_of_reads' rd hs (PyData.noDict_hsm (noDict (.tuple ds) (.ref a) (.tup h1 h2))) hG (by omega) (fun _ _ e => e) (fun h' u tk hk => ?_) hz
    exact ⟨.str _, H, I.kept hk, ⟨u, rfl⟩, q⟩
end
end Sl

set_option Elab.async false
set_option linter.all false
set_option maxRecDepth 100000
set_option maxHeartbeats 1000000
/-! ## A law's head, from a promise that is kept where no repr is under way -/
namespace Sl
open PySem PySem.Spec PyProof.Rows L2
theorem law_callG {P : Program} {w : World} {K : PySem.W.Frag} {mg mb : Str → Option Value} {k : Nat} {fa a : Addr} {fd : FuncData} {x : Str} {sp : Sp} {z : Shared} {vs : List Value} {ns : List Int}
    (inK : K.In z.heap) (gl : z.heap.Ns mainGlobals mg) (bl : z.heap.Ns builtinsNs mb) (bb : ∀ x : Str, x ≠ "__name__" → mb x = bootBuiltins x) (lim : z.heap.NoLimit) (gs : z.gens = #[])
    (oa : z.heap.get? a = some { cls := .type "list", data := .seq vs.toArray }) (hi : IntsAre vs ns) (hl : ns.length ≤ sizeLine) (hr : Room k callerA)
    (F : ∀ base : Heap, K.In base → base.Ns mainGlobals mg → FnG P w K mg base (L2.CX P w) k fa fd [x] sp) (bind : ∀ (s : Shared) (u : Value), BindsTo s fd ⟨[u], []⟩ [(x, u)])
    (hsp : ∀ G : Hp, Only G → SqL K G a (ns.map V.int) → sp [.ref a] G (fun v _ => v = .bl true) fun _ _ _ => False) :
    codeAny (model P w) callerA (.call (.ref fa) ⟨[.ref a], []⟩) (fun r s' => r = .ok (.ret (.bool true)) ∧ OldK z.heap s'.heap ∧ s'.os = z.os ∧ AllBare s'.gens) z := by
  have items := vals_ints hi
  have count := hi.length
  have main : ∀ G : Hp, Only G → SqL K G a (ns.map V.int) → HOk P w G z.heap → (∀ b, G b ≠ none → b = a) → (G a ≠ none → K.lookup a = none) →
      codeAny (model P w) callerA (.call (.ref fa) ⟨[.ref a], []⟩) (fun r s' => r = .ok (.ret (.bool true)) ∧ OldK z.heap s'.heap ∧ s'.os = z.os ∧ AllBare s'.gens) z := by
    intro G only sq ok one notK
    have plain_of : ∀ {b : Addr} {o : Obj} {es : Array DictEntry} {ep : Nat}, z.heap.get? b = some o → o.data = .dict es ep → G b = none := by
      intro b o es ep e dt
      cases q : G b with
      | none => rfl
      | some u =>
        have e1 : b = a := one b (by simp [q])
        rw [e1, oa] at e
        cases e
        exact absurd (show Data.seq vs.toArray _ = Data.dict es ep from dt) (fun y => nomatch y)
    have ns_of : ∀ {b : Addr} {m : Str → Option Value}, z.heap.Ns b m → (hidT z.heap G).Ns b m := by
      intro b m h
      obtain ⟨o, es, ep, e, dt, r⟩ := h
      exact ⟨o, es, ep, hidT_get e (plain_of e dt), dt, r⟩
    have inB : K.In (hidT z.heap G) := by
      intro b o e
      apply hidT_get (inK b o e)
      cases q : G b with
      | none => rfl
      | some u =>
        have e1 : b = a := one b (by simp [q])
        subst e1
        rw [notK (by simp [q])] at e
        cases e
    have noLim : (hidT z.heap G).NoLimit := by
      obtain ⟨mc, h1, h2⟩ := lim
      exact ⟨mc, ns_of h1, h2⟩
    have md : Mod K mg (hidT z.heap G) := { kin := inB, glob := ns_of gl, blt := ⟨mb, ns_of bl, bb⟩, nolimit := noLim }
    have e0 : Env0 P w K mg (hidT z.heap G) callerA [] z G :=
      { frames := rfl, mod := md, bs := fun b o e => of_hidT e, bsz := Nat.le_of_eq (hidT_size _ _), funs := trivial, frf := fun b hb => absurd (show b ∈ ([] : List Addr) from hb) (by simp), hok := ok, bare := .of_eq gs }
    apply codeAny_mono ((F _ inB (ns_of gl)).goes callerA rfl [] z G ⟨[.ref a], []⟩ [.ref a] [.ref a] _ _ hr e0 (bind z (.ref a)) (.cons rfl .nil) (hsp G only sq))
    intro r s' h
    match r, h with
    | .error e, h =>
      obtain ⟨_, _, _, _, _, _, _, _, _, _, _, _, y⟩ := h
      exact y.elim
    | .ok (.ret u), ⟨v, G', os, bare, un, ok', r', q⟩ =>
      have q1 : v = .bl true := q
      subst q1
      obtain rfl : u = Value.bool true := r'
      refine ⟨rfl, OldK.of_keep ?_, os, bare⟩
      intro b o e
      cases y : G b with
      | none => exact un.keep b o e y (by intro q; exact absurd (show b ∈ ([] : List Addr) from q) (by simp)) (by simp)
      | some u =>
        rcases only b with y2 | ⟨ob, xs, y2⟩
        · rw [y] at y2
          cases y2
        · obtain ⟨e1, _⟩ := ok b _ y2
          obtain ⟨e2, _⟩ := ok' b _ (un.frzs b ob _ y2)
          rw [e] at e1
          cases e1
          exact e2
  cases hk : K.lookup a with
  | some o =>
    have e := inK a o hk
    rw [oa] at e
    cases e
    refine main (fun _ => none) (fun _ => .inl rfl) (.inr ⟨_, vs.toArray, _, hk, rfl, rfl, rfl, ?_, by simpa using items⟩) (fun b u y => nomatch (show (none : Option HO) = some u from y)) (fun b y => absurd rfl y) fun y => absurd rfl y
    rw [List.size_toArray, count]
    exact hl
  | none =>
    have at_a : ∀ b, b ≠ a → (fun b => if b = a then some (HO.frz { cls := .type "list", data := .seq vs.toArray } (.lst (ns.map V.int))) else none) b = none := fun b hb => if_neg hb
    refine main (fun b => if b = a then some (.frz { cls := .type "list", data := .seq vs.toArray } (.lst (ns.map V.int))) else none) ?_ (.inl (.inr ⟨{ cls := .type "list", data := .seq vs.toArray }, if_pos rfl⟩)) ?_ ?_ fun _ => hk
    · intro b
      by_cases hb : b = a
      · exact .inr ⟨_, _, if_pos hb⟩
      · exact .inl (if_neg hb)
    · intro b u y
      by_cases hb : b = a
      · subst hb
        have y' := (if_pos rfl).symm.trans y
        cases y'
        exact ⟨oa, by rw [List.length_map]; exact hl, vs, _, items, oa⟩
      · rw [at_a b hb] at y
        cases y
    · intro b y
      by_cases hb : b = a
      · exact hb
      · exact absurd (at_a b hb) y
/-- the goal that the head's word leaves, from such a promise of the law -/
theorem walkG {l : PySem.W.OpenLaw} {n k : Nat} {q : Program} {loose : List Str} {XP : (Str → Option Value) → Heap → Prop} {YP : World → Heap → Prop} {d : DefRec} {K : Params → PySem.W.Frag} {sp : World → Sp} {x : Str}
    (hn : l.most = some n) (hn2 : n ≤ sizeLine) (hdf : d.params.defaults = []) (hr : Room k callerA) (hY : ∀ (w : World) (h : Heap), YP w h → (K w.params).In h)
    (F : ∀ (w : World) (mg : Str → Option Value) (fa : Addr) (h : Heap), (K w.params).In h → h.Ns mainGlobals mg → mg d.name = some (.ref fa) →
      ∃ fd : FuncData, (∀ (s : Shared) (u : Value), BindsTo s fd ⟨[u], []⟩ [(x, u)]) ∧
        ∀ base : Heap, (K w.params).In base → base.Ns mainGlobals mg → FnG l.prog w (K w.params) mg base (L2.CX l.prog w) k fa fd [x] (sp w))
    (hsp : ∀ (w : World) (G : Hp) (a : Addr) (ns : List Int), ns.length ≤ n → Only G → SqL (K w.params) G a (ns.map V.int) → sp w [.ref a] G (fun v _ => v = .bl true) fun _ _ _ => False) :
    PySem.W.WalkO q loose XP YP l.row.toRowW d [] (fun f vs => PySem.call f vs) := by
  apply Att.attach_call hn hdf
  intro w s₀ z mg mb fa o pm cd doc a vs ns G Y ho hd hcd hmg hobj hints hlen hg
  have inK := hY w _ Y
  obtain ⟨fd, hb, hF⟩ := F w mg fa _ inK G.T.g hmg
  exact law_callG inK G.T.g G.T.b G.T.builtins G.T.nolimit hg hobj hints (Nat.le_trans hlen hn2) hr hF hb (fun H hO hS => hsp w H a ns hlen hO hS)
end Sl

set_option Elab.async false
set_option linter.all false
set_option maxRecDepth 100000
set_option maxHeartbeats 400000
/-! ## Values without lists and dicts as data: their texts have a bounded length -/
namespace Sl
open PySem PySem.Spec PyProof.Rows L2
mutual
def D.py : D → PyData
  | .non => .none
  | .bl b => .bool b
  | .int i => .int i
  | .str x => .str x
  | .tup ds => .tuple (D.pys ds)
  | .lst => .none
  | .dct => .none
def D.pys : List D → List PyData
  | [] => []
  | d :: ds => d.py :: D.pys ds
end
mutual
/-- tuples, bools, none and ints below 2 ^ 128 -/
def D.good : D → Bool
  | .non => true
  | .bl _ => true
  | .int i => decide (i.natAbs.log2 < 128)
  | .tup ds => D.goods ds
  | _ => false
def D.goods : List D → Bool
  | [] => true
  | d :: ds => d.good && D.goods ds
end
mutual
def D.wt : D → Nat
  | .tup ds => D.wts ds + 3
  | _ => 129
def D.wts : List D → Nat
  | [] => 0
  | d :: ds => d.wt + 2 + D.wts ds
end
mutual
def D.dep : D → Nat
  | .tup ds => D.deps ds + 1
  | _ => 0
def D.deps : List D → Nat
  | [] => 0
  | d :: ds => max d.dep (D.deps ds)
end
theorem good_and {d : D} {ds : List D} (h : D.goods (d :: ds) = true) : d.good = true ∧ D.goods ds = true := by
  simp only [D.goods, Bool.and_eq_true] at h
  exact h
theorem goods_of : ∀ {ds : List D}, (∀ d ∈ ds, d.good = true) → D.goods ds = true
  | [], _ => by simp only [D.goods]
  | d :: ds, h => by
    simp only [D.goods, Bool.and_eq_true]
    exact ⟨h d List.mem_cons_self, goods_of fun x hx => h x (List.mem_cons_of_mem _ hx)⟩
theorem goods_mem : ∀ {ds : List D}, D.goods ds = true → ∀ d ∈ ds, d.good = true
  | [], _, _, h => absurd h List.not_mem_nil
  | x :: xs, g, d, h => by
    have := good_and g
    rcases List.mem_cons.mp h with e | e
    · rw [e]
      exact this.1
    · exact goods_mem this.2 d e
section
variable {K : PySem.W.Frag} {H : Hp}
mutual
theorem Rdd.dp : ∀ (d : D) {v : V}, d.good = true → Rdd K H v d → Dp K H v d.py
  | .non, _, _, h => by cases h; simp only [D.py]; exact .non
  | .bl b, _, _, h => by cases h; simp only [D.py]; exact .bl b
  | .int i, _, _, h => by cases h; simp only [D.py]; exact .int i
  | .str x, _, g, _ => by simp [D.good] at g
  | .tup ds, _, g, h => by
    simp only [D.good] at g
    cases h with
    | tup hs ha _ =>
      simp only [D.py]
      exact .tup hs (RddAll.dp ds g ha)
  | .lst, _, g, _ => by simp [D.good] at g
  | .dct, _, g, _ => by simp [D.good] at g
theorem RddAll.dp : ∀ (ds : List D) {vs : List V}, D.goods ds = true → RddAll K H vs ds → DpAll K H vs (D.pys ds)
  | [], _, _, h => by cases h; simp only [D.pys]; exact .nil
  | d :: ds, _, g, h => by
    have g2 := good_and g
    cases h with
    | cons h1 h2 =>
      simp only [D.pys]
      exact .cons (Rdd.dp d g2.1 h1) (RddAll.dp ds g2.2 h2)
end
end
mutual
theorem good_show : ∀ d : D, d.good = true → d.py.showable = true ∧ d.py.canLay0 = true
  | .non, _ => by simp [D.py, PyData.showable, PyData.canLay0]
  | .bl b, _ => by simp [D.py, PyData.showable, PyData.canLay0]
  | .int i, g => by
    simp only [D.good, decide_eq_true_eq] at g
    simp only [D.py, PyData.showable, PyData.canLay0, decide_eq_true_eq, and_true]
    omega
  | .str x, g => by simp [D.good] at g
  | .tup ds, g => by
    simp only [D.good] at g
    simp only [D.py, PyData.showable, PyData.canLay0]
    exact goods_show ds g
  | .lst, g => by simp [D.good] at g
  | .dct, g => by simp [D.good] at g
theorem goods_show : ∀ ds : List D, D.goods ds = true → PyData.showableAll (D.pys ds) = true ∧ PyData.canLayAll0 (D.pys ds) = true
  | [], _ => by simp [D.pys, PyData.showableAll, PyData.canLayAll0]
  | d :: ds, g => by
    have g2 := good_and g
    have h1 := good_show d g2.1
    have h2 := goods_show ds g2.2
    simp only [D.pys, PyData.showableAll, PyData.canLayAll0, Bool.and_eq_true]
    exact ⟨⟨h1.1, h2.1⟩, h1.2, h2.2⟩
end
mutual
theorem dep_py : ∀ d : D, d.py.depth ≤ d.dep
  | .non => by simp [D.py, PyData.depth, D.dep]
  | .bl b => by simp [D.py, PyData.depth, D.dep]
  | .int i => by simp [D.py, PyData.depth, D.dep]
  | .str x => by simp [D.py, PyData.depth, D.dep]
  | .tup ds => by
    simp only [D.py, PyData.depth, D.dep]
    have := deps_py ds
    omega
  | .lst => by simp [D.py, PyData.depth, D.dep]
  | .dct => by simp [D.py, PyData.depth, D.dep]
theorem deps_py : ∀ ds : List D, PyData.depthAll (D.pys ds) ≤ D.deps ds
  | [] => by simp [D.pys, PyData.depthAll, D.deps]
  | d :: ds => by
    simp only [D.pys, PyData.depthAll, D.deps]
    have h1 := dep_py d
    have h2 := deps_py ds
    omega
end
mutual
theorem shown_wt : ∀ d : D, d.good = true → d.py.shown.length ≤ d.wt
  | .non, _ => by
    simp only [D.py, PyData.shown_none, D.wt]
    decide +kernel
  | .bl b, _ => by
    simp only [D.py, PyData.shown_bool, D.wt]
    cases b <;> decide +kernel
  | .int i, g => by
    simp only [D.good, decide_eq_true_eq] at g
    simp only [D.py, PyData.shown_int, D.wt]
    have e := int_text_length_le (k := 128) (by decide) g
    rw [PySem.ofString_length]
    exact e
  | .str x, g => by simp [D.good] at g
  | .tup ds, g => by
    simp only [D.good] at g
    simp only [D.py, D.wt, PyData.shown]
    have h1 := tupleText_len_le (PyData.shownAll (D.pys ds))
    have h2 := shown_wts ds g
    omega
  | .lst, g => by simp [D.good] at g
  | .dct, g => by simp [D.good] at g
theorem shown_wts : ∀ ds : List D, D.goods ds = true → ((PyData.shownAll (D.pys ds)).map (·.length)).sum + 2 * (PyData.shownAll (D.pys ds)).length ≤ D.wts ds
  | [], _ => by simp [D.pys, PyData.shownAll, D.wts]
  | d :: ds, g => by
    have g2 := good_and g
    have h1 := shown_wt d g2.1
    have h2 := shown_wts ds g2.2
    simp only [D.pys, PyData.shownAll, D.wts, List.map_cons, List.sum_cons, List.length_cons]
    omega
end
theorem wts_append : ∀ (a b : List D), D.wts (a ++ b) = D.wts a + D.wts b
  | [], b => by simp [D.wts]
  | d :: ds, b => by
    simp only [List.cons_append, D.wts, wts_append ds b]
    omega
theorem wts_take (k : Nat) (ds : List D) : D.wts (ds.take k) ≤ D.wts ds := by
  have e := wts_append (ds.take k) (ds.drop k)
  rw [List.take_append_drop] at e
  omega
theorem wts_len : ∀ ds : List D, ds.length ≤ D.wts ds
  | [] => by simp [D.wts]
  | d :: ds => by
    have := wts_len ds
    simp only [D.wts, List.length_cons]
    omega
/-- what repr asks of such a value -/
theorem rRepr_of {K : PySem.W.Frag} {H : Hp} {v : V} {d : D} {Q : VK} (r : Rdd K H v d) (g : d.good = true) (hd : d.dep ≤ 40) (hw : d.wt ≤ 1000000) (q : Q (.str d.py.shown) H) : rRepr K [v] H Q := by
  have h1 := dep_py d
  have h2 := shown_wt d g
  have h3 : sizeLine = 16777216 := sizeLine_eq
  exact ⟨v, d.py, rfl, Rdd.dp d g r, (good_show d g).1, by omega, by omega, q⟩
/-- v != u of equal such values -/
theorem rNe_same {K : PySem.W.Frag} {H : Hp} {v u : V} {d : D} {Q : VK} (r1 : Rdd K H v d) (r2 : Rdd K H u d) (g : d.good = true) (hd : d.dep ≤ 40) (q : Q (.bl false) H) : rNeD K v u H Q := by
  have h1 := dep_py d
  have c := (good_show d g).2
  have s : SeqAt.shaped d.py = true := by
    unfold SeqAt.shaped
    rw [c, decide_eq_true (show d.py.depth ≤ 64 by omega)]
    rfl
  refine ⟨d.py, d.py, Rdd.dp d g r1, Rdd.dp d g r2, s, s, ?_⟩
  rw [SeqAt.eqv_refl d.py c]
  exact q
theorem rEq_same {K : PySem.W.Frag} {H : Hp} {v u : V} {d : D} {Q : VK} (r1 : Rdd K H v d) (r2 : Rdd K H u d) (g : d.good = true) (hd : d.dep ≤ 40) (q : Q (.bl true) H) : rEqD K v u H Q := by
  have h1 := dep_py d
  have c := (good_show d g).2
  have s : SeqAt.shaped d.py = true := by
    unfold SeqAt.shaped
    rw [c, decide_eq_true (show d.py.depth ≤ 64 by omega)]
    rfl
  refine ⟨d.py, d.py, Rdd.dp d g r1, Rdd.dp d g r2, s, s, ?_⟩
  rw [SeqAt.eqv_refl d.py c]
  exact q
end Sl

set_option Elab.async false
set_option linter.all false
set_option maxRecDepth 100000
set_option maxHeartbeats 2000000
namespace PySem
namespace TmX
open PySem.W PySem.Calls PyProof.Rows PySem.HandSPX
/-! ### the text of __init__ -/
def iA (p1 p2 : Pos) : Arguments := { posonlyargs := [], args := [{ arg := "self", annotation := none, pos := p1 }, { arg := "limit", annotation := none, pos := p2 }], vararg := none, kwonlyargs := [], kw_defaults := [], kwarg := none, defaults := [] }
def iB (q1 q2 q3 q4 : Pos) : List Stmt := [.Assign [.Attribute (.Name "self" q1) "limit" q2] (.Name "limit" q3) q4]
def iS : Scope := { kind := .function, names := [(PySem.Str.ofString "self", .local), (PySem.Str.ofString "limit", .local)], isGenerator := false, isCoroutine := false, more := [] }
/-- what the written part says of TooMany, at C, and of its __init__, at fI -/
abbrev ovf : List Value := [.type "OverflowError", .type "ArithmeticError", .type "Exception", .type "BaseException", .type "object"]
structure TmTxt (K : Frag) (mg : Str → Option Value) (C fI : Addr) : Prop where
  gC : mg "TooMany" = some (.ref C)
  cls : ∃ nm q N bs bm sn sub ab col dd k0 k1 k2 k3 k5, K.lookup C = some (excClassObj nm q C N bs bm true sn sub ab col dd k0 k1 k2 k3 k5 "OverflowError.__new__") ∧ bm = ovf
  sa : findIn K (.ref C) "__setattr__" = some (some (.builtin "object.__setattr__"))
  ga : findIn K (.ref C) "__getattribute__" = some (some (.builtin "BaseException.__getattribute__"))
  gg : findIn K (.ref C) "__getattr__" = some none
  noN : findIn K (.ref C) "limit" = some none
  iC : findIn K (.ref C) "__init__" = some (some (.ref fI))
  tC : typeIn K (.ref fI) = some (.type "function")
  kC : keepIn K (.ref C) = true
  exC : subIn K (.ref C) (.type "BaseException") = some true
  tyC : typeIn K (.ref C) = some (.type "type")
  hdC : hasDictIn K C = true
  te : exmOne K (.ref C) (.ref C) = some true
  fn : ∃ (oc : Value) (od : Option Addr) (doc pm : Value) (an : Option Addr) (cdv ct : Value) (osl : Array (Option Value)) (p1 p2 q1 q2 q3 q4 : Pos),
    K.lookup fI = some ⟨oc, od, .func (fnOf "__init__" "TooMany.__init__" (iA p1 p2) (iB q1 q2 q3 q4) iS .none .none doc pm an cdv ct), osl⟩ ∧ codeIn K cdv "TooMany.__init__" = true
theorem one_size (v : Value) : [v].length ≤ sizeLine := by
  rw [sizeLine_eq]
  exact (by decide : 1 ≤ 16777216)
theorem kept_but {K : Frag} {h h' : Heap} {x : Addr} (X : K.In h) (hx : K.lookup x = none) (k : ∀ b o, b ≠ x → h.get? b = some o → h'.get? b = some o) : K.In h' := fun a o e =>
  k a o (fun z => by rw [z, hx] at e; cases e) (X a o e)
theorem ldC {M : Model} {s : Shared} {name : Str} {scope : Scope} {L a : Addr} {cd : Value} {m : Str → Option Value} {x : Str} {pos : Pos} {v : Value} {Q : Value → Shared → Prop} {A : Around} {E : Value → Shared → Prop} (hn : s.heap.Ns L m) (hv : m x = some v) (h : Q v s)
    (hk : scope.kind = .function := by rfl) (hl : (envOfC name scope L a cd).kindOf x = some .local := by rfl) (hd : (x == ("__debug__" : Str)) = false := by decide) :
    wpAny M A (eval (.Name x pos) (envOfC name scope L a cd)) Q E s := wpAny_Name (wpAny_loadName_local hk hl hn hv h) hd
/-- what __init__ leaves of a fresh exception at x -/
structure InitEnd (h h' : Heap) (x C dx t1 : Addr) (v : Value) : Prop where
  keep : ∀ b o, b ≠ x → h.get? b = some o → h'.get? b = some o
  obj : h'.get? x = some { cls := .ref C, dict := some dx, data := .fields #[.ref t1, .none, .none, .none, .bool false, .none] }
  dbig : h.objs.size ≤ dx
  dne : dx ≠ x
  ns : h'.Ns1 dx (fun y => if y = "limit" then some v else none)
/-- a made Low -/
structure OwnMade (h h' : Heap) (e C d : Addr) (v : Value) : Prop where
  keep : ∀ b o, h.get? b = some o → h'.get? b = some o
  new : h.objs.size ≤ e
  obj : ∃ oe vs, h'.get? e = some oe ∧ oe.cls = .ref C ∧ oe.dict = some d ∧ oe.data = .fields vs ∧ vs[1]? = some .none
  dbig : h.objs.size ≤ d
  dne : d ≠ e
  ns : h'.Ns1 d (fun y => if y = "limit" then some v else none)
section
variable {prog : Program} {w : World} {A : Around} {E : Value → Shared → Prop} {R : Result → Shared → Prop} {s : Shared} {K : Frag} {mg : Str → Option Value} {C fI : Addr}
theorem tm_init (T : TmTxt K mg C fI) {x t0 : Addr} {v : Value} (X : K.In s.heap) (hlim : s.heap.NoLimit) (hx : s.heap.get? x = some (excO C t0)) (hnx : K.lookup x = none) (hroom : A.depth < recursionLimit)
    (hq : ∀ h' tk dx, InitEnd s.heap h' x C dx t0 v → R (.ok (.ret .none)) { s with heap := h', toks := tk }) :
    codeAny (model prog w) A (.call (.ref fI) ⟨[.ref x, v], []⟩) R s := by
  obtain ⟨oc, od, doc, pm, an, cdv, ct, osl, p1, p2, q1, q2, q3, q4, ho, hcd⟩ := T.fn
  obtain ⟨nm, q, N, bs, bm, sn, sub, ab, col, dd, k0, k1, k2, k3, k5, hC, hbm⟩ := T.cls
  have hcl : clsIn K C = some { name := nm, bases := bs, mro := .ref C :: bm, ns := N, qualname := q, hasDict := true, slotNames := sn, subclasses := sub, abstract := ab, collection := col, hasDel := false } := by unfold clsIn; rw [hC] <;> rfl
  refine Att.call_fn (binds := [("self", .ref x), ("limit", v)]) X hlim ho hcd hroom (BindsTo.of_eq (by first | rfl | with_unfolding_all rfl)) (by first | rfl | decide | with_unfolding_all rfl) (fun s₁ IC => ?_) rfl rfl rfl
  obtain ⟨h₁, tk₁, rfl⟩ := IC.toInCall.same
  have k : ∀ b o, s.heap.get? b = some o → h₁.get? b = some o := IC.toInCall.keep
  have hn := IC.toInCall.ns
  have hxL : s.heap.objs.size ≠ x := Nat.ne_of_gt (Heap.lt_size hx)
  have X₁ : K.In h₁ := X.keeps k
  have hx₁ := k _ _ hx
  -- self.by = by
  show wpAny _ _ (execs _ _) _ _ _
  refine wpAny_execs_cons (plainObj_wpAny_Assign_Attribute ?_)
  refine ldC (v := v) hn (by first | rfl | with_unfolding_all rfl | kernel_rfl) (ldC (v := .ref x) hn (by first | rfl | with_unfolding_all rfl | kernel_rfl) ?_)
  refine set_plain X₁ (ox := excO C t0) (od := none) ⟨hx₁, rfl, rfl, trivial⟩ T.sa ?_
  refine ErX.osa_first X₁ hx₁ hcl (fun self => by
    show refuseLoop self "__setattr__" (.ref C :: bm) = pure ()
    rw [refuseLoop_ref, hbm]
    exact F.store_OverflowError.passes self) rfl (by
    show (Value.ref C :: bm).contains (.type "object") = true
    rw [hbm]
    rfl) rfl T.noN (fun h₃ tk₃ dx k₃ dn dne hx₃ hn₃ => ?_)
  show wpAny _ _ (execs _ _) _ _ _
  have z : s.heap.objs.size < h₁.objs.size := hn.lt
  exact wpAny_execs_nil (hq h₃ tk₃ dx ⟨fun b o hb e => k₃ b o hb (k b o e), hx₃, Nat.le_of_lt (Nat.lt_of_lt_of_le z dn), dne, hn₃⟩)
theorem tm_made (T : TmTxt K mg C fI) {v : Value} (X : K.In s.heap) (hlim : s.heap.NoLimit) (hroom : A.depth + 1 < recursionLimit)
    (hq : ∀ h' tk e d, OwnMade s.heap h' e C d v → R (.ok (.ret (.ref e))) { s with heap := h', toks := tk }) :
    codeAny (model prog w) A (.call (.ref C) ⟨[v], []⟩) R s := by
  obtain ⟨nm, q, N, bs, bm, sn, sub, ab, col, dd, k0, k1, k2, k3, k5, hC, hbm⟩ := T.cls
  obtain ⟨hp, g, dr, tk, os⟩ := s
  have k : ∀ b o, hp.get? b = some o → ((hp.push (kdv_tup [v])).push (excO C hp.objs.size)).get? b = some o := fun b o e => Heap.get?_push_of_some _ (Heap.get?_push_of_some _ e)
  have hget : ((hp.push (kdv_tup [v])).push (excO C hp.objs.size)).get? (hp.objs.size + 1) = some (excO C hp.objs.size) := by heap_get
  have hnx : K.lookup (hp.objs.size + 1) = none := by
    cases e : K.lookup (hp.objs.size + 1) with
    | none => rfl
    | some o =>
      have z : hp.get? (hp.objs.size + 1) = some o := X _ _ e
      exact absurd (Nat.lt_of_succ_lt (Heap.lt_size z)) (Nat.lt_irrefl _)
  refine call_own F.excBase_OverflowError (fun X => by rw [hbm]) (X _ _ hC) (looks_findIn X T.iC) (fun self => bind_fn X self T.tC) (one_size v) ?_
  refine tm_init (s := ⟨(hp.push (kdv_tup [v])).push (excO C hp.objs.size), g, dr, tk, os⟩) T (X.keeps k) (hlim.keeps k) hget hnx ?_ fun h' tk' dx ⟨k', hx, dn, dne, hns⟩ => ?_
  · show A.depth + 1 < recursionLimit
    exact hroom
  · have old : ∀ b o, hp.get? b = some o → h'.get? b = some o := fun b o e => k' b o (Nat.ne_of_lt (Nat.lt_succ_of_lt (Heap.lt_size e))) (k b o e)
    have z : hp.objs.size + 1 + 1 ≤ dx := by
      first
        | (simpa only [Heap.size_push] using dn)
        | exact dn
        | (have q := dn; rw [Heap.size_push, Heap.size_push] at q; exact q)
    exact ⟨rfl, hq h' tk' (hp.objs.size + 1) dx ⟨old, Nat.le_succ _, ⟨_, _, hx, rfl, rfl, rfl, rfl⟩, Nat.le_trans (Nat.le_trans (Nat.le_succ _) (Nat.le_succ _)) z, dne, hns⟩⟩
end
end TmX
end PySem
namespace L2
open PySem PySem.Spec PyProof.Rows
theorem relO_tm {v : V} {v' : Value} (r : RelV v v') (f : Str) : RelO (List.lookup f [(("limit" : Str), v)]) (if f = "limit" then some v' else none) := by
  by_cases hw : f = "limit"
  · subst hw
    rw [if_pos rfl]
    have q : List.lookup ("limit" : Str) [(("limit" : Str), v)] = some v := by simp [List.lookup]
    rw [q]
    exact r
  · rw [if_neg hw]
    have qw : (f == ("limit" : Str)) = false := by simpa using hw
    have q2 : List.lookup f [(("limit" : Str), v)] = none := by simp [List.lookup, qw]
    rw [q2]
    trivial
section
variable {X : Cx} {C fI : Addr}
/-- Low(e) -/
def tMkTm (C : Addr) (ta : TA) : St → Hp → XK → Prop := fun σ H Q => ta σ H fun vs H1 => ∃ v, vs = [v] ∧ ∀ d, H1 d = none → Q (.ref C) (some d) (upd H1 d (.xd [(("limit" : Str), v)]))
theorem pmk_tm {a : Expr} {ta : TA} {p pos : Pos} {k : Nat} (T : PySem.TmX.TmTxt X.K X.mg C fI) (hr : Room k X.A) (ha : PA X [a] ta) (hg : Gl X "TooMany" := by rfl)
    (he : starEach (a :: []) X.env = (false, eval a X.env) :: starEach [] X.env := by rfl) (hpl : (backTo pos (starEach [] X.env)).any (·.1) = false := by rfl) :
    PMk X (.Call (.Name "TooMany" p) [a] [] pos) (tMkTm C ta) := by
  intro pins s σ H Q I h
  refine wpAny_Call_Name_kw (ld_glob I hg T.gC ?_)
  refine PySem.W.callWith_K (h₀ := X.base) I.ok.mod.kin T.kC (thn (ha.run pos pins s σ H _ I h) fun us s1 hh => ?_) he hpl
  obtain ⟨vs, H1, I1, r1, v, ev, q1⟩ := hh
  subst ev
  refine ⟨I1.kIn, ?_⟩
  cases r1 with
  | cons rv rn =>
    rename_i v' us'
    cases rn
    show wpAny _ _ (call (.ref C) [v']) _ _ _
    have hlim := I1.nolimit
    obtain ⟨hp, g, dr, tk, os⟩ := s1
    refine wpAny_call (PySem.TmX.tm_made T I1.kIn hlim (by have := hr.dp; omega) fun h' tk' e d M => ?_)
    show MkP X pins σ Q (.ref e) ⟨h', g, dr, tk', os⟩
    obtain ⟨oe, fv, hoe, hc, hd, hdat, h1⟩ := M.obj
    have hns := M.ns
    obtain ⟨G', g1, g2⟩ := restrict h' fun b => decide (b ≠ e)
    have gk : ∀ b, b ≠ e → G'.get? b = h'.get? b := fun b hb => g1 b (decide_eq_true hb)
    have ge : G'.get? e = none := g2 e (by simp)
    have old : ∀ b o, hp.get? b = some o → G'.get? b = some o := fun b o q => (gk b (Nat.ne_of_lt (Nat.lt_of_lt_of_le (Heap.lt_size q) M.new))).trans (M.keep b o q)
    have ob : ObjOk X.prog X.w (upd H1 d (.xd [(("limit" : Str), v)])) G' d (.xd [(("limit" : Str), v)]) :=
      ⟨_, hns.at (fun o q => (gk d M.dne).trans q), fun f => relO_tm rv f⟩
    have J : Inv X pins σ (upd H1 d (.xd [(("limit" : Str), v)])) ⟨G', g, dr, tk', os⟩ := I1.laid (t' := tk') old M.dbig ob
    refine ⟨e, oe, fv, ⟨G', g, dr, tk', os⟩, _, .ref C, some d, rfl, J, fun b o q => ?_, ge, hoe, ⟨hc, hd⟩, hdat, h1, ?_, rfl, I1.bare, raises_own T.exC T.tyC, q1 d (I1.hok.fresh M.dbig)⟩
    · by_cases hb : b = e
      · have q' : G'.get? b = some o := q
        rw [hb, ge] at q'; cases q'
      · exact (gk b hb).symm.trans q
    · rw [upd_ne (Ne.symm M.dne)]
      exact I1.hok.fresh M.new
/-- raise Low(e) -/
def tRaiseTm (C : Addr) (W : WX) (ta : TA) : TS := fun _ σ H => tMkTm C ta σ H fun cls d H' => W cls d σ H'
theorem ps_raiseTm {a : Expr} {ta : TA} {W : WX} {p pos pos2 : Pos} {k : Nat} (hc : X.calm = true) (T : PySem.TmX.TmTxt X.K X.mg C fI) (hr : Room k X.A) (tk : Takes X W) (ha : PA X [a] ta) (hg : Gl X "TooMany" := by rfl)
    (he : starEach (a :: []) X.env = (false, eval a X.env) :: starEach [] X.env := by rfl) (hpl : (backTo pos (starEach [] X.env)).any (·.1) = false := by rfl) :
    PS X (.Raise (some (.Call (.Name "TooMany" p) [a] [] pos)) none pos2) (tRaiseTm C W ta) := ps_raise hc tk (pmk_tm T hr ha hg he hpl)
/-- low.by, low the exception that the suite holds (at a; its class cls, its dict d) -/
def tByTm (C : Addr) (a : Addr) (cls : Value) (d : Option Addr) (te : TE) : TE := fun σ H Q => te σ H fun x H1 => x = .ref a ∧ cls = .ref C ∧ ∃ (dd : Addr) (v : V), d = some dd ∧ H1 dd = some (.xd [(("limit" : Str), v)]) ∧ Q v H1
theorem pe_byTm {a : Addr} {oe : Obj} {cls : Value} {d : Option Addr} {pn : List (Addr × Obj)} {e : Expr} {te : TE} {pos : Pos} (T : PySem.TmX.TmTxt X.K X.mg C fI) (hz : Zc cls d oe) (hf : ∃ vs, oe.data = .fields vs) (he : PE (X.suite a ((a, oe) :: pn)) e te)
    (hb : attributeBase e "limit" X.env (eval e X.env) = eval e X.env := by rfl) :
    PE (X.suite a ((a, oe) :: pn)) (.Attribute e "limit" pos) (tByTm C a cls d te) := by
  refine ⟨fun pins s σ H Q I h => ?_⟩
  refine attr_of hb (thn (he.run pins s σ H _ I h) fun u s1 hh => ?_)
  obtain ⟨x, H1, I1, rx, ex, ec, dd, v, ed, ea, q⟩ := hh
  subst ex
  obtain rfl : u = Value.ref a := rx
  subst ec
  subst ed
  obtain ⟨ha, _⟩ := I1.pin (a, oe) (List.mem_append_left _ List.mem_cons_self)
  obtain ⟨vs, hd⟩ := hf
  have hx : ObjOk X.prog X.w H1 s1.heap dd (.xd [(("limit" : Str), v)]) := I1.hok dd _ ea
  obtain ⟨mA, hns, hr⟩ := hx
  obtain ⟨od, ho, hl⟩ := lookIn_ns hns
  have l : List.lookup ("limit" : Str) [(("limit" : Str), v)] = some v := by simp [List.lookup]
  obtain ⟨u, hu, ru⟩ := RelO.some_of (v := v) (o := mA "limit") (by rw [← l]; exact hr "limit")
  have J : PySem.W.InstAt s1.heap a oe C (some od) := ⟨ha, hz.1, by unfold PySem.W.notCls; rw [hd] <;> rfl, by rw [hz.2]; exact ho⟩
  exact HandSPX.exc_get I1.kIn J T.ga T.gg T.exC (PySem.W.findObj_own T.hdC T.noN rfl (by rw [hl, hu])) (handed_of ru) ⟨v, H1, I1.tok _, ru, q⟩
end
end L2

namespace L2
open PySem PySem.Spec PyProof.Rows
/-- an if whose test is known -/
theorem if_true_of {c : Bool} {A B : Prop} (hc : c = true) (h : A) : if c = true then A else B := by
  rw [if_pos hc]
  exact h
theorem if_false_of {c : Bool} {A B : Prop} (hc : c = false) (h : B) : if c = true then A else B := by
  rw [hc, if_neg Bool.false_ne_true]
  exact h
end L2

set_option Elab.async false
set_option linter.all false
set_option maxRecDepth 100000
set_option maxHeartbeats 400000
namespace Sl
open PySem PySem.Spec PyProof.Rows L2
def topS (i : Nat) : Stmt := PySem.Challenge.pw_sharedlets_k17_forms_of_addresses.main.body.getD i (.Pass ⟨0, 0, 0, 0⟩)
abbrev sWhole : Stmt := topS 6
abbrev sBelow : Stmt := topS 7
abbrev sPlainA : Stmt := topS 13
abbrev sPiece : Stmt := topS 14
abbrev sPair : Stmt := topS 15
abbrev sIsAddr : Stmt := topS 16
theorem scWhole : FnScope ["value"] ["value"] (defScope sWhole) := ⟨rfl, rfl, rfl, by decide +kernel, rfl, by decide +kernel, by decide +kernel⟩
theorem scBelow : FnScope ["value", "limit"] ["value", "limit"] (defScope sBelow) := ⟨rfl, rfl, rfl, by decide +kernel, rfl, by decide +kernel, by decide +kernel⟩
theorem scPlainA : FnScope ["value", "step"] ["value"] (defScope sPlainA) := ⟨rfl, rfl, rfl, by decide +kernel, rfl, by decide +kernel, by decide +kernel⟩
theorem scPiece : FnScope ["value"] ["value"] (defScope sPiece) := ⟨rfl, rfl, rfl, by decide +kernel, rfl, by decide +kernel, by decide +kernel⟩
theorem scPair : FnScope ["value"] ["value"] (defScope sPair) := ⟨rfl, rfl, rfl, by decide +kernel, rfl, by decide +kernel, by decide +kernel⟩
theorem scIsAddr : FnScope ["value", "element"] ["value"] (defScope sIsAddr) := ⟨rfl, rfl, rfl, by decide +kernel, rfl, by decide +kernel, by decide +kernel⟩
/-- built-ins that the module leaves alone -/
structure Bi (mg : Str → Option Value) : Prop where
  isi : mg "isinstance" = none
  int : mg "int" = none
  bool : mg "bool" = none
  tuple : mg "tuple" = none
  len : mg "len" = none
  all : mg "all" = none
def dWhole : D → Bool
  | .int _ => true
  | _ => false
def dBelow (n : Int) : D → Bool
  | .int i => decide (0 ≤ i) && decide (i < n)
  | _ => false
/-- the greatest number of rounds; one more -/
def lim0 : Int := 1000000000000000000000000000000
def lim1 : Int := lim0 + 1
def dPlainA : D → Bool
  | .tup ds => ds.all (dBelow 3)
  | _ => false
def dPiece : D → Bool
  | .tup ds => !ds.isEmpty && ds.all (dBelow 3)
  | _ => false
def dPair : D → Bool
  | .tup [p, t] => dPiece p && dBelow lim1 t
  | _ => false
def dAddr : D → Bool
  | .tup ds => ds.all fun d => dBelow 3 d || dPair d
  | _ => false
theorem fm_some (f : D → Bool) : ∀ ds : List D, (ds.map fun d => some (V.bl (f d))).filterMap id = (ds.map f).map V.bl
  | [] => rfl
  | d :: ds => by
    rw [List.map_cons, List.map_cons, List.map_cons, ← fm_some f ds]
    rfl
theorem two_of {α : Type} {xs : List α} (h : xs.length = 2) : ∃ x y, xs = [x, y] := by
  match xs, h with
  | [x, y], _ => exact ⟨x, y, rfl⟩
theorem RddAll.two {K : PySem.W.Frag} {H : Hp} {x y : V} {ds : List D} (h : RddAll K H [x, y] ds) : ∃ p t, ds = [p, t] ∧ Rdd K H x p ∧ Rdd K H y t := by
  cases h with
  | cons h1 h2 =>
    cases h2 with
    | cons h3 h4 =>
      cases h4
      exact ⟨_, _, rfl, h1, h3⟩
theorem RddAll.pair {K : PySem.W.Frag} {H : Hp} {xs : List V} {p t : D} (h : RddAll K H xs [p, t]) : ∃ x y, xs = [x, y] ∧ Rdd K H x p ∧ Rdd K H y t := by
  cases h with
  | cons h1 h2 =>
    cases h2 with
    | cons h3 h4 =>
      cases h4
      exact ⟨_, _, rfl, h1, h3⟩
theorem not_two {ds : List D} (h : ds.length ≠ 2) : dPair (.tup ds) = false := by
  match ds, h with
  | [], _ => rfl
  | [_], _ => rfl
  | [_, _], h => exact absurd rfl h
  | _ :: _ :: _ :: _, _ => rfl
theorem isa_whole (d : D) : (if isA "int" d = true then !isA "bool" d else false) = dWhole d := by
  rw [isA_int, isA_bool]
  cases d <;> rfl
section
variable {P : Program} {w : World} {K : PySem.W.Frag} {mg : Str → Option Value} {base : Heap}
def spWhole (K : PySem.W.Frag) : Sp := fun vs H Q _ => ∃ v d, vs = [v] ∧ Rdd K H v d ∧ Q (.bl (dWhole d)) H
theorem ok_whole {f : Addr} {fd : FuncData} (F : Fun K "is_whole" "is_whole" sWhole f fd) (B : Bi mg) : FnOk P w K mg base CX0 1 f fd ["value"] (spWhole K) := by
  refine F.ok scWhole (fun vs H Q E h => ?_) (fun cdv A outer s H vs Q E hr h => ?_)
  · obtain ⟨v, d, rfl, _⟩ := h
    rfl
  · obtain ⟨v, d, rfl, hv, q⟩ := h
    refine ⟨_, pss_one (ps_ret (pe_and (pe_callB call_isi (by rfl) B.isi (by decide +kernel) (pa_cons (pv 0) (pa_cons (pe_bltn (v := .ty "int") (by rfl) B.int (by decide +kernel) rfl) pa_nil)))
      (pe_one (pe_not (pe_callB call_isi (by rfl) B.isi (by decide +kernel) (pa_cons (pv 0) (pa_cons (pe_bltn (v := .ty "bool") (by rfl) B.bool (by decide +kernel) rfl) pa_nil))))))), ?_⟩
    refine ⟨v, rfl, v, .ty "int", _, _, isA "int" d, rfl, .ty _, hv.ty, kit_isA (by decide +kernel), isA "int" d, rfl, ?_⟩
    have e := isa_whole d
    cases h1 : isA "int" d with
    | true =>
      rw [h1, if_pos rfl] at e
      refine iteT ⟨v, rfl, v, .ty "bool", _, _, isA "bool" d, rfl, .ty _, hv.ty, kit_isA (by decide +kernel), isA "bool" d, rfl, ?_⟩
      rw [e]
      exact q
    | false =>
      rw [h1, if_neg Bool.false_ne_true] at e
      refine iteF ?_
      rw [e]
      exact q
def spBelow (K : PySem.W.Frag) : Sp := fun vs H Q _ => ∃ v d n, vs = [v, .int n] ∧ Rdd K H v d ∧ Q (.bl (dBelow n d)) H
theorem ok_below {f fW : Addr} {fd fdW : FuncData} (F : Fun K "is_below" "is_below" sBelow f fd) (FW : Fun K "is_whole" "is_whole" sWhole fW fdW) (bW : Binds K fdW ["value"] []) (gW : mg "is_whole" = some (.ref fW)) (B : Bi mg) :
    FnOk P w K mg base CX0 2 f fd ["value", "limit"] (spBelow K) := by
  have GW : FnOk P w K mg base CX0 1 fW fdW ["value"] (spWhole K) := ok_whole FW B
  refine F.ok scBelow (fun vs H Q E h => ?_) (fun cdv A outer s H vs Q E hr h => ?_)
  · obtain ⟨v, d, n, rfl, _⟩ := h
    rfl
  · obtain ⟨v, d, n, rfl, hv, q⟩ := h
    refine ⟨_, pss_one (ps_ret (pe_and (pe_call GW hr (by rfl) gW FW.kp bW .nil pass0 (pa_cons (pv 0) pa_nil)) (pe_one (pe_chain op_le op_lt pe_int (pv 0) (pv 1))))), ?_⟩
    refine ⟨v, rfl, v, d, rfl, hv, dWhole d, rfl, ?_⟩
    cases hv with
    | int i =>
      refine iteT ⟨.int i, rfl, _, _, rfl, rfl, _, rfl, ?_⟩
      refine ite2 (fun e => ⟨_, rfl, _, _, rfl, rfl, ?_⟩) (fun e => ?_)
      · have e' : decide (0 ≤ i) = true := e
        have z : dBelow n (.int i) = decide (i < n) := by
          show (decide (0 ≤ i) && decide (i < n)) = decide (i < n)
          rw [e', Bool.true_and]
        rw [z] at q
        exact q
      · have e' : decide (0 ≤ i) = false := by
          cases h : decide (0 ≤ i) with
          | true => exact absurd h e
          | false => rfl
        have z : dBelow n (.int i) = false := by
          show (decide (0 ≤ i) && decide (i < n)) = false
          rw [e', Bool.false_and]
        rw [z] at q
        exact q
    | _ => exact iteF q
/-! ### a program's own names -/
structure Ad (K : PySem.W.Frag) (mg : Str → Option Value) (fW fB fPc fPr fA : Addr) (fdW fdB fdPc fdPr fdA : FuncData) : Prop where
  FW : Fun K "is_whole" "is_whole" sWhole fW fdW
  bW : Binds K fdW ["value"] []
  gW : mg "is_whole" = some (.ref fW)
  FB : Fun K "is_below" "is_below" sBelow fB fdB
  bB : Binds K fdB ["value", "limit"] []
  gB : mg "is_below" = some (.ref fB)
  FPc : Fun K "_is_piece" "_is_piece" sPiece fPc fdPc
  bPc : Binds K fdPc ["value"] []
  gPc : mg "_is_piece" = some (.ref fPc)
  pl : ∃ fP fdP, Fun K "is_plain_address" "is_plain_address" sPlainA fP fdP ∧ Binds K fdP ["value"] [] ∧ mg "is_plain_address" = some (.ref fP)
  FPr : Fun K "_is_pair" "_is_pair" sPair fPr fdPr
  bPr : Binds K fdPr ["value"] []
  gPr : mg "_is_pair" = some (.ref fPr)
  FA : Fun K "is_address" "is_address" sIsAddr fA fdA
  bA : Binds K fdA ["value"] []
  gA : mg "is_address" = some (.ref fA)
  terms : ∃ t, mg "MAX_TERMS" = some (.int 3 t)
  times : ∃ t, mg "MAX_TIMES" = some (.int lim0 t)
variable {fW fB fPc fPr fA : Addr} {fdW fdB fdPc fdPr fdA : FuncData}
theorem g_below (T : Ad K mg fW fB fPc fPr fA fdW fdB fdPc fdPr fdA) (B : Bi mg) : FnOk P w K mg base CX0 2 fB fdB ["value", "limit"] (spBelow K) := ok_below T.FB T.FW T.bW T.gW B
def spD (K : PySem.W.Frag) (p : D → Bool) : Sp := fun vs H Q _ => ∃ v d, vs = [v] ∧ Rdd K H v d ∧ ∀ H', Same H H' → Q (.bl (p d)) H'
theorem ok_plainA {fP : Addr} {fdP : FuncData} (FP : Fun K "is_plain_address" "is_plain_address" sPlainA fP fdP) (T : Ad K mg fW fB fPc fPr fA fdW fdB fdPc fdPr fdA) (B : Bi mg) : FnOk P w K mg base CX0 3 fP fdP ["value"] (spD K dPlainA) := by
  have GB : FnOk P w K mg base CX0 2 fB fdB ["value", "limit"] (spBelow K) := g_below T B
  obtain ⟨t3, g3⟩ := T.terms
  refine FP.ok scPlainA (fun vs H Q E h => ?_) (fun cdv A outer s H vs Q E hr h => ?_)
  · obtain ⟨v, d, rfl, _⟩ := h
    rfl
  · obtain ⟨v, d, rfl, hv, q⟩ := h
    refine ⟨_, pss_one (ps_ret (pe_and (pe_callB call_isi (by rfl) B.isi (by decide +kernel) (pa_cons (pv 0) (pa_cons (pe_bltn (v := .ty "tuple") (by rfl) B.tuple (by decide +kernel) rfl) pa_nil)))
      (pe_one (pe_callB (cr_all rfl) (by rfl) B.all (by decide +kernel) (pa_cons
        (pe_lc (own := [("step", 1)]) (g := gName 1) (tt := tYes) rfl scPlainA.nd (pi_tup (pv 0)) (blkOk_by (own := [("step", 1)]) (N := ["value", "step"]) (sc := defScope sPlainA) (by decide +kernel))
          (fun _ _ _ _ _ => pg_name (i := 1) scPlainA.nd rfl (Or.inl rfl)) (fun _ _ _ _ _ => pts_nil)
          (fun _ _ _ _ _ => pe_call GB hr (by rfl) T.gB T.FB.kp T.bB .nil pass0 (pa_cons (pv 1) (pa_cons (pe_glob (v := .int 3) (by rfl) g3 ⟨_, rfl⟩) pa_nil)))) pa_nil))))), ?_⟩
    refine ⟨v, rfl, v, .ty "tuple", _, _, isA "tuple" d, rfl, .ty _, hv.ty, kit_isA (by decide +kernel), isA "tuple" d, rfl, ?_⟩
    rw [isA_tuple]
    cases hv with
    | @tup a xs ds hs ha hz =>
      have hl := ha.length
      refine iteT ⟨_, rfl, a, rfl, ⟨_, hs⟩, fun D0 nD => lcT (ds.map fun d => some (V.bl (dBelow 3 d))) (by rw [List.length_map, hl]) (by omega) hs nD ?_ ?_⟩
      · intro i x H2 Q2 Z2 hx sm hQ _
        obtain ⟨d, hd, rd⟩ := ha.get hx
        refine ⟨rfl, ?_⟩
        refine iteT (B := Z2 H2) ⟨x, rfl, x, d, 3, rfl, Rdd.ex (.same sm) d rd, hQ _ _ ?_ (Same.refl _)⟩
        rw [List.getElem?_map, hd]
        rfl
      · intro H2 sm hl2
        refine ⟨D0, ds.map (dBelow 3), rfl, .inl (.inl ?_), ?_⟩
        · rw [hl2, fm_some]
        · have z : ((ds.map (dBelow 3)).all id) = dPlainA (.tup ds) := by
            show _ = ds.all (dBelow 3)
            rw [List.all_map]
            rfl
          rw [z]
          exact q _ sm
    | _ => exact iteF (q _ (Same.refl _))
theorem ok_piece (T : Ad K mg fW fB fPc fPr fA fdW fdB fdPc fdPr fdA) (B : Bi mg) : FnOk P w K mg base CX0 4 fPc fdPc ["value"] (spD K dPiece) := by
  obtain ⟨fP, fdP, FP, bP, gP⟩ := T.pl
  have GP : FnOk P w K mg base CX0 3 fP fdP ["value"] (spD K dPlainA) := ok_plainA FP T B
  refine T.FPc.ok scPiece (fun vs H Q E h => ?_) (fun cdv A outer s H vs Q E hr h => ?_)
  · obtain ⟨v, d, rfl, _⟩ := h
    rfl
  · obtain ⟨v, d, rfl, hv, q⟩ := h
    refine ⟨_, pss_one (ps_ret (pe_and (pe_call GP hr (by rfl) gP FP.kp bP .nil pass0 (pa_cons (pv 0) pa_nil))
      (pe_one (pe_cmpR op_gt (pe_callB call_len_seq (by rfl) B.len PySem.boot_len (pa_cons (pv 0) pa_nil)) pe_int (by rfl))))), ?_⟩
    refine ⟨v, rfl, v, d, rfl, hv, fun H1 s1 => ⟨dPlainA d, rfl, ?_⟩⟩
    cases hv with
    | @tup a xs ds hs ha hz =>
      have hl := ha.length
      cases e : dPlainA (.tup ds) with
      | true =>
        refine iteT ⟨.ref a, rfl, a, _, rfl, .inr ((Ex.same s1).tup hs), _, _, rfl, rfl, ?_⟩
        have z : decide ((xs.length : Int) > 0) = dPiece (.tup ds) := by
          have e' : ds.all (dBelow 3) = true := e
          show _ = (!ds.isEmpty && ds.all (dBelow 3))
          rw [e', Bool.and_true, hl]
          cases ds with
          | nil => rfl
          | cons _ _ => exact decide_eq_true (by simp)
        rw [← z] at q
        exact q _ s1
      | false =>
        refine iteF ?_
        have z : dPiece (.tup ds) = false := by
          have e' : ds.all (dBelow 3) = false := e
          show (!ds.isEmpty && ds.all (dBelow 3)) = false
          rw [e', Bool.and_false]
        rw [z] at q
        exact q _ s1
    | _ => exact iteF (q _ s1)
theorem ok_pair (T : Ad K mg fW fB fPc fPr fA fdW fdB fdPc fdPr fdA) (B : Bi mg) : FnOk P w K mg base CX0 5 fPr fdPr ["value"] (spD K dPair) := by
  have GB : FnOk P w K mg base CX0 2 fB fdB ["value", "limit"] (spBelow K) := g_below T B
  have GP : FnOk P w K mg base CX0 4 fPc fdPc ["value"] (spD K dPiece) := ok_piece T B
  obtain ⟨t3, g3⟩ := T.times
  refine T.FPr.ok scPair (fun vs H Q E h => ?_) (fun cdv A outer s H vs Q E hr h => ?_)
  · obtain ⟨v, d, rfl, _⟩ := h
    rfl
  · obtain ⟨v, d, rfl, hv, q⟩ := h
    refine ⟨_, pss_cons (ps_if (PW.pt (pw_or (pt_not (pt_val (pe_callB call_isi (by rfl) B.isi (by decide +kernel) (pa_cons (pv 0) (pa_cons (pe_bltn (v := .ty "tuple") (by rfl) B.tuple (by decide +kernel) rfl) pa_nil)))))
        (pw_or1 (pt_cmpR op_ne (pe_callB call_len_seq (by rfl) B.len PySem.boot_len (pa_cons (pv 0) pa_nil)) pe_int (nomark _)))))
        (pss_one (ps_ret pe_bl)) pss_nil)
      (pss_one (ps_ret (pe_and (pe_call GP hr (by rfl) T.gPc T.FPc.kp T.bPc .nil pass0 (pa_cons (pe_ix ix_tup (pv 0) pe_int (fun _ _ => rfl)) pa_nil))
        (pe_one (pe_call GB (hr.mono (by decide)) (by rfl) T.gB T.FB.kp T.bB .nil pass0 (pa_cons (pe_ix ix_tup (pv 0) pe_int (fun _ _ => rfl)) (pa_cons (pe_op op_add (pe_glob (v := .int lim0) (by rfl) g3 ⟨_, rfl⟩) pe_int) pa_nil))))))), ?_⟩
    refine ⟨v, rfl, v, .ty "tuple", _, _, isA "tuple" d, rfl, .ty _, hv.ty, kit_isA (by decide +kernel), isA "tuple" d, rfl, ?_⟩
    rw [isA_tuple]
    cases hv with
    | @tup a xs ds hs ha hz =>
      have hl := ha.length
      refine iteF ⟨.ref a, rfl, a, _, rfl, .inr hs, rfl, _, rfl, ?_⟩
      by_cases h2 : xs.length = 2
      · have z : decide ((V.int ↑xs.length) = (V.int 2)) = true := decide_eq_true (by rw [h2]; rfl)
        obtain ⟨x, y, rfl⟩ := two_of h2
        obtain ⟨p, t, rfl, rx, ry⟩ := ha.two
        · skip
          refine iteNS (of_decide_eq_true z) ?_
          refine ⟨.ref a, rfl, a, _, 0, x, rfl, rfl, hs, rfl, x, p, rfl, rx, fun H1 s1 => ⟨dPiece p, rfl, ?_⟩⟩
          cases e : dPiece p with
          | true =>
            refine iteT ⟨.ref a, rfl, a, _, 1, y, rfl, rfl, (Ex.same s1).tup hs, rfl, _, _, rfl, rfl, y, t, _, rfl, Rdd.ex (.same s1) t ry, ?_⟩
            have z2 : dPair (.tup [p, t]) = dBelow lim1 t := by
              show (dPiece p && dBelow lim1 t) = _
              rw [e, Bool.true_and]
            rw [z2] at q
            exact q _ s1
          | false =>
            refine iteF ?_
            have z2 : dPair (.tup [p, t]) = false := by
              show (dPiece p && dBelow lim1 t) = _
              rw [e, Bool.false_and]
            rw [z2] at q
            exact q _ s1
      · have z : decide ((V.int ↑xs.length) = (V.int 2)) = false := decide_eq_false (fun e => h2 (by have := V.int.inj e; omega))
        rw [show (decide ((V.int ↑xs.length) = (V.int 2))) = false from z]
        refine iteT ?_
        have z2 : dPair (.tup ds) = false := not_two (by omega)
        rw [z2] at q
        exact q _ (Same.refl _)
    | _ => exact iteT (q _ (Same.refl _))
theorem ok_isaddr (T : Ad K mg fW fB fPc fPr fA fdW fdB fdPc fdPr fdA) (B : Bi mg) : FnOk P w K mg base CX0 6 fA fdA ["value"] (spD K dAddr) := by
  have GB : FnOk P w K mg base CX0 2 fB fdB ["value", "limit"] (spBelow K) := g_below T B
  have GP : FnOk P w K mg base CX0 5 fPr fdPr ["value"] (spD K dPair) := ok_pair T B
  obtain ⟨t3, g3⟩ := T.terms
  refine T.FA.ok scIsAddr (fun vs H Q E h => ?_) (fun cdv A outer s H vs Q E hr h => ?_)
  · obtain ⟨v, d, rfl, _⟩ := h
    rfl
  · obtain ⟨v, d, rfl, hv, q⟩ := h
    refine ⟨_, pss_cons (ps_if (pt_not (pt_val (pe_callB call_isi (by rfl) B.isi (by decide +kernel) (pa_cons (pv 0) (pa_cons (pe_bltn (v := .ty "tuple") (by rfl) B.tuple (by decide +kernel) rfl) pa_nil)))))
        (pss_one (ps_ret pe_bl)) pss_nil)
      (pss_one (ps_ret (pe_callB (cr_all rfl) (by rfl) B.all (by decide +kernel) (pa_cons
        (pe_lc (own := [("element", 1)]) (g := gName 1) (tt := tYes) rfl scIsAddr.nd (pi_tup (pv 0)) (blkOk_by (own := [("element", 1)]) (N := ["value", "element"]) (sc := defScope sIsAddr) (by decide +kernel))
          (fun _ _ _ _ _ => pg_name (i := 1) scIsAddr.nd rfl (Or.inl rfl)) (fun _ _ _ _ _ => pts_nil)
          (fun _ _ _ _ _ => pe_or (pe_call GB (hr.mono (by decide)) (by rfl) T.gB T.FB.kp T.bB .nil pass0 (pa_cons (pv 1) (pa_cons (pe_glob (v := .int 3) (by rfl) g3 ⟨_, rfl⟩) pa_nil)))
            (pe_one (pe_call GP hr (by rfl) T.gPr T.FPr.kp T.bPr .nil pass0 (pa_cons (pv 1) pa_nil))))) pa_nil)))), ?_⟩
    refine ⟨v, rfl, v, .ty "tuple", _, _, isA "tuple" d, rfl, .ty _, hv.ty, kit_isA (by decide +kernel), isA "tuple" d, rfl, ?_⟩
    rw [isA_tuple]
    cases hv with
    | @tup a xs ds hs ha hz =>
      have hl := ha.length
      refine iteF ?_
      refine ⟨_, rfl, a, rfl, ⟨_, hs⟩, fun D0 nD => lcT (ds.map fun d => some (V.bl (dBelow 3 d || dPair d))) (by rw [List.length_map, hl]) (by omega) hs nD ?_ ?_⟩
      · intro i x H2 Q2 Z2 hx sm hQ _
        obtain ⟨d, hd, rd⟩ := ha.get hx
        have rd2 := Rdd.ex (.same sm) d rd
        have hi : (ds.map fun d => some (V.bl (dBelow 3 d || dPair d)))[i]? = some (some (V.bl (dBelow 3 d || dPair d))) := by
          rw [List.getElem?_map, hd]
          rfl
        refine ⟨rfl, ?_⟩
        refine iteT (B := Z2 H2) ⟨x, rfl, x, d, 3, rfl, rd2, dBelow 3 d, rfl, ?_⟩
        cases e : dBelow 3 d with
        | true =>
          rw [e, Bool.true_or] at hi
          exact iteT (hQ _ _ hi (Same.refl _))
        | false =>
          rw [e, Bool.false_or] at hi
          exact iteF ⟨x, rfl, x, d, rfl, rd2, fun H3 s3 => hQ _ _ hi s3⟩
      · intro H2 sm hl2
        refine ⟨D0, ds.map (fun d => dBelow 3 d || dPair d), rfl, .inl (.inl ?_), ?_⟩
        · rw [hl2, fm_some fun d => dBelow 3 d || dPair d]
        · have z : ((ds.map fun d => dBelow 3 d || dPair d).all id) = dAddr (.tup ds) := by
            show _ = (ds.all fun d => dBelow 3 d || dPair d)
            rw [List.all_map]
            rfl
          rw [z]
          exact q _ sm
    | _ => exact iteT (q _ (Same.refl _))
end
end Sl

set_option Elab.async false
set_option linter.all false
set_option maxRecDepth 100000
set_option maxHeartbeats 400000
namespace Sl
open PySem PySem.Spec PyProof.Rows L2
abbrev sStream : Stmt := topS 24
abbrev sDraw : Stmt := topS 25
abbrev sPick : Stmt := topS 26
theorem scStream : FnScope ["_law_script", "_law_at", "_law_cell", "_law_great", "_law_mixed"] ["_law_script", "_law_at"] (defScope sStream) := ⟨rfl, rfl, rfl, by decide +kernel, rfl, by decide +kernel, by decide +kernel⟩
theorem scDraw : FnScope ["_law_stream_here", "_law_high", "_law_found", "_law_one", "_law_two"] ["_law_stream_here", "_law_high"] (defScope sDraw) := ⟨rfl, rfl, rfl, by decide +kernel, rfl, by decide +kernel, by decide +kernel⟩
theorem scPick : FnScope ["_law_stream_here", "_law_items"] ["_law_stream_here", "_law_items"] (defScope sPick) := ⟨rfl, rfl, rfl, by decide +kernel, rfl, by decide +kernel, by decide +kernel⟩
/-- more built-ins -/
structure Bj (mg : Str → Option Value) : Prop extends Bi mg where
  abs : mg "abs" = none
  max : mg "max" = none
  min : mg "min" = none
  range : mg "range" = none
  list : mg "list" = none
  sum : mg "sum" = none
  repr : mg "repr" = none
  divmod : mg "divmod" = none
/-- a stream of draws stands at a -/
def Stm (a : Addr) (H : Hp) : Prop := ∃ g m c : Int, H a = some (.lst [.int g, .int m, .int c]) ∧ 0 ≤ g ∧ g.natAbs < 2 ^ 2000
theorem Stm.lst {a : Addr} {H : Hp} (h : Stm a H) : ∃ l, H a = some (.lst l) := by
  obtain ⟨g, m, c, e, _⟩ := h
  exact ⟨_, e⟩
theorem Off.ex' {a : Addr} {G G' : Hp} (h : Off a G G') (h1 : Stm a G) (h2 : Stm a G') : Ex G G' := by
  obtain ⟨l, e⟩ := h1.lst
  obtain ⟨l', e'⟩ := h2.lst
  exact h.ex e e'
theorem Stm.off {a b : Addr} {G G' : Hp} (h : Stm a G) (n : a ≠ b) (o : Off b G G') : Stm a G' := by
  obtain ⟨g, m, c, e, r⟩ := h
  exact ⟨g, m, c, o _ _ n e, r⟩
theorem Stm.same {a : Addr} {G G' : Hp} (h : Stm a G) (o : Same G G') : Stm a G' := by
  obtain ⟨g, m, c, e, r⟩ := h
  exact ⟨g, m, c, o _ _ e, r⟩
theorem op_powW {X : Cx} : OpR X (binaryOp .Pow) (rI (fun i j => 0 ≤ j ∧ (Builtin.Int.intBits i : Int) * j ≤ 2 ^ 27) fun i j => .int (i ^ j.toNat)) := opI fun _ _ _ _ _ _ _ hc q => pow_int hc.1 hc.2 q
section
variable {P : Program} {w : World} {K : PySem.W.Frag} {mg : Str → Option Value} {base : Heap}
def spDraw : Sp := fun vs H Q _ => ∃ (a : Addr) (n : Int), vs = [.ref a, .int n] ∧ Stm a H ∧ 1 ≤ n ∧ n.natAbs < 2 ^ 2000 ∧ ∀ r H', 0 ≤ r → r < n → Off a H H' → Stm a H' → Q (.int r) H'
theorem ok_draw {f : Addr} {fd : FuncData} (F : Fun K "_law_draw" "_law_draw" sDraw f fd) (B : Bj mg) : FnOk P w K mg base CX0 1 f fd ["_law_stream_here", "_law_high"] spDraw := by
  refine F.ok scDraw (fun vs H Q E h => ?_) (fun cdv A outer s H vs Q E hr h => ?_)
  · obtain ⟨a, n, rfl, _⟩ := h
    rfl
  · obtain ⟨a, n, rfl, ⟨g, m, c, ha, g0, g1⟩, n1, n2, q⟩ := h
    refine ⟨_, (pss_cons (ps_if (pt_cmpR op_gt (pe_ix ix_list (pv 0) pe_int (fun _ _ => rfl)) pe_int (nomark _))
        (pss_cons (ps_set (i := 2) scDraw.nd rfl (Or.inl rfl) (pe_op op_mod (pe_callTy call_int1 (by rfl) B.int (by decide +kernel) (pa_cons (pe_ix ix_list (pv 0) pe_int (fun _ _ => rfl)) pa_nil)) (pv 1)))
      (pss_cons (ps_asg (pe_op op_fdivW (pe_ix ix_list (pv 0) pe_int (fun _ _ => rfl)) (pv 1)) (pg_sub (pv 0) pe_int set_list))
      (pss_one (ps_ret (pv 2)))))
        pss_nil)
      (pss_cons (ps_asg (pe_op op_add (pe_ix ix_list (pv 0) pe_int (fun _ _ => rfl)) pe_int) (pg_sub (pv 0) pe_int set_list))
      (pss_cons (ps_set (i := 3) scDraw.nd rfl (Or.inl rfl) (pe_op op_mod (pe_callTy call_int1 (by rfl) B.int (by decide +kernel) (pa_cons (pe_op op_add (pe_ix ix_list (pv 0) pe_int (fun _ _ => rfl)) (pe_op op_mul pe_int (pe_ix ix_list (pv 0) pe_int (fun _ _ => rfl)))) pa_nil)) pe_int))
      (pss_cons (ps_set (i := 4) scDraw.nd rfl (Or.inl rfl) (pe_op op_add (pe_op op_mul (pe_op op_mod (pe_callTy call_int1 (by rfl) B.int (by decide +kernel) (pa_cons (pe_op op_mul (pv 3) (pv 3)) pa_nil)) pe_int) (pv 3)) (pe_op op_mul pe_int (pe_ix ix_list (pv 0) pe_int (fun _ _ => rfl)))))
      (pss_cons (ps_set (i := 4) scDraw.nd rfl (Or.inl rfl) (pe_op op_mod (pe_callTy call_int1 (by rfl) B.int (by decide +kernel) (pa_cons (pv 4) pa_nil)) pe_int))
      (pss_one (ps_ret (pe_op op_mod (pe_callTy call_int1 (by rfl) B.int (by decide +kernel) (pa_cons (pe_op op_fdivW (pv 4) pe_int) pa_nil)) (pv 1))))))))), ?_⟩
    refine ⟨.ref a, rfl, a, _, 0, _, rfl, rfl, SqL.of ha, atI_nat (j := 0) rfl, _, _, rfl, rfl, _, rfl, ite2 (fun e => ?_) (fun e => ?_)⟩
    · -- a great number
      refine ⟨.ref a, rfl, a, _, 0, _, rfl, rfl, SqL.of ha, atI_nat (j := 0) rfl, .inl ⟨g, rfl, .int n, rfl, _, _, rfl, rfl, by omega, ?_⟩⟩
      refine ⟨.ref a, rfl, a, _, 0, _, rfl, rfl, SqL.of ha, atI_nat (j := 0) rfl, .int n, rfl, _, _, rfl, rfl, wide_div (b := 2000) (by omega) n2 (by decide) (by decide), ?_⟩
      refine ⟨.ref a, rfl, a, _, 0, 0, rfl, rfl, ha, rfl, .int (g % n), rfl, ?_⟩
      refine q _ _ (Int.emod_nonneg _ (by omega)) (Int.emod_lt_of_pos _ (by omega)) .put ⟨g / n, m, c, upd_same, Int.ediv_nonneg g0 (by omega), ?_⟩
      have h1 : g / n ≤ g := Int.ediv_le_self n g0
      have h2 : 0 ≤ g / n := Int.ediv_nonneg g0 (by omega)
      omega
    · -- the walk of small numbers
      refine ⟨.ref a, rfl, a, _, 2, _, rfl, rfl, SqL.of ha, atI_nat (j := 2) rfl, _, _, rfl, rfl, .ref a, rfl, a, _, 2, 2, rfl, rfl, ha, rfl, ?_⟩
      have ha2 : (upd H a (.lst ([V.int g, .int m, .int c].set 2 (.int (c + 1))))) a = some (.lst [V.int g, .int m, .int (c + 1)]) := upd_same
      generalize hG : (upd H a (.lst ([V.int g, .int m, .int c].set 2 (.int (c + 1))))) = G at ha2 ⊢
      refine ⟨.ref a, rfl, a, _, 1, _, rfl, rfl, SqL.of ha2, atI_nat (j := 1) rfl, .ref a, rfl, a, _, 2, _, rfl, rfl, SqL.of ha2, atI_nat (j := 2) rfl, _, _, rfl, rfl, .inl (by decide), _, _, rfl, rfl, .inl ⟨_, rfl, _, _, rfl, rfl, (by show (0 : Int) < 2305843009213693951; decide), ?_⟩⟩
      dsimp only
      generalize hx : (m + 1000303 * (c + 1)) % 2305843009213693951 = x
      have x0 : 0 ≤ x := by rw [← hx]; exact Int.emod_nonneg _ (by decide)
      have x1 : x < 2305843009213693951 := by rw [← hx]; exact Int.emod_lt_of_pos _ (by decide)
      refine ⟨.int x, rfl, .int x, rfl, _, _, rfl, rfl, .inl (by omega), .inl ⟨_, rfl, _, _, rfl, rfl, (by show (0 : Int) < 2305843009213693921; decide), ?_⟩⟩
      refine ⟨.int x, rfl, _, _, rfl, rfl, .inr (by omega), .ref a, rfl, a, _, 2, _, rfl, rfl, SqL.of ha2, atI_nat (j := 2) rfl, _, _, rfl, rfl, .inl (by decide), _, _, rfl, rfl, ?_⟩
      dsimp only
      generalize (x * x) % 2305843009213693921 * x + 6911 * (c + 1) = y
      refine ⟨.int y, rfl, .inl ⟨_, rfl, _, _, rfl, rfl, (by show (0 : Int) < 2305843009213693907; decide), ?_⟩⟩
      dsimp only
      generalize y % 2305843009213693907 = z
      refine ⟨.int z, rfl, _, _, rfl, rfl, wide_div (b := 14) (by decide) (by decide) (by decide) (by decide), .inl ⟨_, rfl, .int n, rfl, _, _, rfl, rfl, by omega, ?_⟩⟩
      subst hG
      exact q _ _ (Int.emod_nonneg _ (by omega)) (Int.emod_lt_of_pos _ (by omega)) .put ⟨g, m, c + 1, upd_same, g0, g1⟩
theorem sqL_off {a l : Addr} {G G' : Hp} {xs : List V} (h : SqL K G l xs) (n : l ≠ a) (o : Off a G G') : SqL K G' l xs := by
  rcases h with (h | ⟨ob, h⟩) | h
  · exact .inl (.inl (o _ _ n h))
  · exact .inl (.inr ⟨ob, o _ _ n h⟩)
  · exact .inr h
theorem small_big {n : Nat} (h : n ≤ 100000) : n < 2 ^ 2000 := Nat.lt_of_le_of_lt h (Nat.lt_of_lt_of_le (by decide : 100000 < 2 ^ 20) (Nat.pow_le_pow_right (by decide) (by decide)))
def spPick (K : PySem.W.Frag) : Sp := fun vs H Q _ => ∃ (a l : Addr) (xs : List V), vs = [.ref a, .ref l] ∧ Stm a H ∧ l ≠ a ∧ SqL K H l xs ∧ 1 ≤ xs.length ∧ xs.length ≤ 100000 ∧
  ∀ (i : Nat) x H', xs[i]? = some x → Off a H H' → Stm a H' → Q x H'
theorem ok_pick {f fD : Addr} {fd fdD : FuncData} (F : Fun K "_law_pick" "_law_pick" sPick f fd) (FD : Fun K "_law_draw" "_law_draw" sDraw fD fdD) (bD : Binds K fdD ["_law_stream_here", "_law_high"] []) (gD : mg "_law_draw" = some (.ref fD)) (B : Bj mg) :
    FnOk P w K mg base CX0 2 f fd ["_law_stream_here", "_law_items"] (spPick K) := by
  have GD : FnOk P w K mg base CX0 1 fD fdD ["_law_stream_here", "_law_high"] spDraw := ok_draw FD B
  refine F.ok scPick (fun vs H Q E h => ?_) (fun cdv A outer s H vs Q E hr h => ?_)
  · obtain ⟨a, l, xs, rfl, _⟩ := h
    rfl
  · obtain ⟨a, l, xs, rfl, hs, hne, hl, z1, z2, q⟩ := h
    refine ⟨_, (pss_one (ps_ret (pe_ix ix_list (pv 1) (pe_call GD hr (by rfl) gD FD.kp bD .nil pass0 (pa_cons (pv 0) (pa_cons (pe_callB call_len_seq (by rfl) B.len PySem.boot_len (pa_cons (pv 1) pa_nil)) pa_nil))) (fun _ _ => rfl)))), ?_⟩
    refine ⟨.ref l, rfl, .ref a, rfl, .ref l, rfl, l, xs, rfl, .inl hl, a, _, rfl, hs, by omega, ?_, fun r H' r0 r1 ho hs' => ?_⟩
    · exact small_big z2
    · have hlt : r.toNat < xs.length := by omega
      have e : xs[r.toNat]? = some xs[r.toNat] := List.getElem?_eq_getElem hlt
      refine ⟨l, xs, r, xs[r.toNat], rfl, rfl, sqL_off hl hne ho, ?_, q r.toNat _ H' e ho hs'⟩
      have h1 := atI_nat e
      rw [Int.toNat_of_nonneg r0] at h1
      exact h1
/-- the great number that cuts what a cell brings -/
def big : Int := ((10 : Int) ^ (60 : Int).toNat) ^ (10 : Int).toNat
theorem big_pos : 0 < big := by decide +kernel
theorem big_lt : big.natAbs < 2 ^ 2000 := by decide +kernel
def spStream (K : PySem.W.Frag) : Sp := fun vs H Q _ => ∃ (a : Addr) (ns : List Int) (i : Nat), vs = [.ref a, .int i] ∧ SqL K H a (ns.map V.int) ∧ ∀ p H', H p = none → Same H H' → Stm p H' → Q (.ref p) H'
theorem ok_stream {f : Addr} {fd : FuncData} (F : Fun K "_law_stream" "_law_stream" sStream f fd) (B : Bj mg) : FnOk P w K mg base CX0 1 f fd ["_law_script", "_law_at"] (spStream K) := by
  refine F.ok scStream (fun vs H Q E h => ?_) (fun cdv A outer s H vs Q E hr h => ?_)
  · obtain ⟨a, ns, i, rfl, _⟩ := h
    rfl
  · obtain ⟨a, ns, i, rfl, ha, q⟩ := h
    refine ⟨_, (pss_cons (ps_set (i := 2) scStream.nd rfl (Or.inl rfl) (pe_op op_add (pe_op op_mul pe_int (pv 1)) pe_int))
      (C8.pss_cut (ps_if (pt_cmpR op_lt (pv 1) (pe_callB call_len_seq (by rfl) B.len PySem.boot_len (pa_cons (pv 0) pa_nil)) (nomark _))
        (pss_one (ps_set (i := 2) scStream.nd rfl (Or.inl rfl) (pe_ix ix_list (pv 0) (pv 1) (fun _ _ => rfl))))
        pss_nil)
      (pss_cons (ps_set (i := 3) scStream.nd rfl (Or.inl rfl) (pe_op op_mod (pe_callTy call_int1 (by rfl) B.int (by decide +kernel) (pa_cons (pe_callB call_abs (by rfl) B.abs (by decide +kernel) (pa_cons (pv 2) pa_nil)) pa_nil)) (pe_op op_powW (pe_op op_powW pe_int pe_int) pe_int)))
      (pss_cons (ps_set (i := 4) scStream.nd rfl (Or.inl rfl) (pe_op op_add (pe_op op_add (pe_op op_add (pe_op op_mul (pe_op op_mod (pe_callTy call_int1 (by rfl) B.int (by decide +kernel) (pa_cons (pv 3) pa_nil)) pe_int) pe_int) (pe_op op_mul pe_int (pv 1))) (pe_op op_mul pe_int (pe_callTy call_int1 (by rfl) B.int (by decide +kernel) (pa_cons (pe_cmpR op_lt (pv 2) pe_int (nomark _)) pa_nil)))) pe_int))
      (pss_one (ps_ret (pe_lst (pa_cons (pe_callB (call_max2 rfl) (by rfl) B.max (by decide +kernel) (pa_cons pe_int (pa_cons (pe_op op_sub (pv 3) (pe_op op_pow pe_int pe_int)) pa_nil))) (pa_cons (pe_op op_mod (pe_callTy call_int1 (by rfl) B.int (by decide +kernel) (pa_cons (pv 4) pa_nil)) pe_int) (pa_cons pe_int pa_nil)))))))))), ?_⟩
    refine ⟨.int i, rfl, _, _, rfl, rfl, .inl (by decide), _, _, rfl, rfl, fun σ' H' => ∃ c : Int, σ' = [some (.ref a), some (.int i), some (.int c), none, none] ∧ H' = H, ?_, ?_⟩
    rotate_left
    · rintro σ' H' ⟨c, rfl, rfl⟩
      refine ⟨.int c, rfl, c, rfl, .inl ⟨_, rfl, _, _, rfl, rfl, ⟨by decide, by decide +kernel⟩, _, _, rfl, rfl, ⟨by decide, by decide +kernel⟩, _, _, rfl, rfl, big_pos, ?_⟩⟩
      dsimp only
      rw [show ((10 : Int) ^ (60 : Int).toNat) ^ (10 : Int).toNat = big from rfl]
      generalize hg : (if c < 0 then -c else c) % big = g
      have g0 : 0 ≤ g := by rw [← hg]; exact Int.emod_nonneg _ (Int.ne_of_gt big_pos)
      have g1 : g < big := by rw [← hg]; exact Int.emod_lt_of_pos _ big_pos
      refine ⟨.int g, rfl, .inl ⟨g, rfl, _, _, rfl, rfl, (by show (0 : Int) < 2147483423; decide), _, _, rfl, rfl, .inr (by decide), .int i, rfl, _, _, rfl, rfl, .inl (by decide), _, _, rfl, rfl, ?_⟩⟩
      refine ⟨.int c, rfl, _, _, rfl, rfl, .inr ⟨_, rfl, _, _, rfl, rfl, .inl (by decide), _, _, rfl, rfl, _, _, rfl, rfl, ?_⟩⟩
      dsimp only
      generalize ((g % 2147483423 * 45121 + 2017 * (i : Int) + 5 * (if decide (c < 0) = true then 1 else 0)) + 23 : Int) = m
      refine ⟨.int g, rfl, _, _, rfl, rfl, ⟨by decide, by decide, by decide⟩, _, _, rfl, rfl, _, _, rfl, .int m, rfl, .inl ⟨m, rfl, _, _, rfl, rfl, (by show (0 : Int) < 2147483399; decide), (by show 3 ≤ sizeLine; decide), fun p np => ?_⟩⟩
      refine q p _ np (Same.new np) ⟨_, _, _, upd_same, ?_, ?_⟩
      · split <;> omega
      · have hb := big_lt
        have h18 : 0 ≤ (10 : Int) ^ (18 : Int).toNat := by decide +kernel
        split <;> omega
    refine ⟨.int i, rfl, .ref a, rfl, a, _, rfl, .inl ha, _, _, rfl, rfl, _, rfl, ite2 (fun e => ?_) (fun e => ?_)⟩
    · have h1 : i < ns.length := by
        have := of_decide_eq_true e
        rw [List.length_map] at this
        omega
      have h2 : (ns.map V.int)[i]? = some (.int ns[i]) := by
        rw [List.getElem?_map, List.getElem?_eq_getElem h1]
        rfl
      exact ⟨.ref a, rfl, .int i, rfl, a, _, i, _, rfl, rfl, ha, atI_nat h2, _, rfl, rfl⟩
    · exact ⟨_, rfl, rfl⟩
end
end Sl

set_option Elab.async false
set_option linter.all false
set_option maxRecDepth 100000
set_option maxHeartbeats 400000
namespace Sl
open PySem PySem.Spec PyProof.Rows L2
abbrev sChk : Stmt := topS 8
abbrev sForm : Stmt := topS 17
abbrev sSteps : Stmt := topS 18
abbrev sLen : Stmt := topS 19
theorem scChk : FnScope ["value", "limit"] ["value", "limit"] (defScope sChk) := ⟨rfl, rfl, rfl, by decide +kernel, rfl, by decide +kernel, by decide +kernel⟩
theorem scForm : FnScope ["address"] ["address"] (defScope sForm) := ⟨rfl, rfl, rfl, by decide +kernel, rfl, by decide +kernel, by decide +kernel⟩
theorem scSteps : FnScope ["element"] ["element"] (defScope sSteps) := ⟨rfl, rfl, rfl, by decide +kernel, rfl, by decide +kernel, by decide +kernel⟩
theorem scLen : FnScope ["address", "element"] ["address"] (defScope sLen) := ⟨rfl, rfl, rfl, by decide +kernel, rfl, by decide +kernel, by decide +kernel⟩
/-! ### the mathematics -/
def steps : D → Int
  | .tup [.tup p, .int t] => p.length * t
  | _ => 1
def lenOf (ds : List D) : Int := (ds.map steps).sum
def elems : D → List D
  | .tup [.tup p, .int t] => (List.replicate t.toNat p).flatten
  | d => [d]
def plainOf (ds : List D) : List D := (ds.map elems).flatten
def front (d : D) (n : Int) : List D :=
  match d with
  | .tup [.tup p, .int _] => (if n / p.length > 0 then [.tup [.tup p, .int (n / p.length)]] else []) ++ p.take (n % p.length).toNat
  | _ => []
def cutOf : List D → Int → List D
  | [], _ => []
  | d :: ds, n => if n = 0 then [] else if steps d ≤ n then d :: cutOf ds (n - steps d) else front d n
/-- an element of an address with pieces of a thousand numbers at most -/
def okEl (d : D) : Prop := (∃ i, d = .int i ∧ 0 ≤ i ∧ i < 3) ∨ ∃ p t, d = .tup [.tup p, .int t] ∧ p ≠ [] ∧ p.length ≤ 1000 ∧ (∀ x ∈ p, dBelow 3 x = true) ∧ 0 ≤ t ∧ t < lim1
def OkA (ds : List D) : Prop := ∀ d ∈ ds, okEl d
theorem below_of {i n : Int} (h0 : 0 ≤ i) (h1 : i < n) : dBelow n (.int i) = true := by
  show (decide (0 ≤ i) && decide (i < n)) = true
  rw [decide_eq_true h0, decide_eq_true h1]
  rfl
theorem okEl.acc {d : D} (h : okEl d) : (dBelow 3 d || dPair d) = true := by
  rcases h with ⟨i, rfl, h0, h1⟩ | ⟨p, t, rfl, hp, _, ha, h0, h1⟩
  · rw [below_of h0 h1]
    rfl
  · have e1 : dPiece (.tup p) = true := by
      show (!p.isEmpty && p.all (dBelow 3)) = true
      rw [List.all_eq_true.mpr ha]
      cases p with
      | nil => exact absurd rfl hp
      | cons _ _ => rfl
    have e2 : dPair (.tup [.tup p, .int t]) = true := by
      show (dPiece (.tup p) && dBelow lim1 (.int t)) = true
      rw [e1, below_of h0 h1]
      rfl
    rw [e2, Bool.or_true]
theorem OkA.acc {ds : List D} (h : OkA ds) : dAddr (.tup ds) = true := List.all_eq_true.mpr fun d hd => (h d hd).acc
theorem okEl.pos {d : D} (h : okEl d) : 0 ≤ steps d := by
  rcases h with ⟨i, rfl, _⟩ | ⟨p, t, rfl, _, _, _, h0, _⟩
  · show (0 : Int) ≤ 1
    decide
  · show (0 : Int) ≤ p.length * t
    exact Int.mul_nonneg (by omega) h0
theorem lenOf_cons (d : D) (ds : List D) : lenOf (d :: ds) = steps d + lenOf ds := by
  unfold lenOf
  rw [List.map_cons, List.sum_cons]
theorem lenOf_pos : ∀ {ds : List D}, OkA ds → 0 ≤ lenOf ds
  | [], _ => by decide
  | d :: ds, h => by
    rw [lenOf_cons]
    have h1 := (h d List.mem_cons_self).pos
    have h2 := lenOf_pos (ds := ds) fun x hx => h x (List.mem_cons_of_mem _ hx)
    omega
theorem elems_len {d : D} (h : okEl d) : ((elems d).length : Int) = steps d := by
  rcases h with ⟨i, rfl, _⟩ | ⟨p, t, rfl, _, _, _, h0, _⟩
  · rfl
  · show (((List.replicate t.toNat p).flatten.length : Nat) : Int) = p.length * t
    rw [PyProof.Rows.lm_len_rep_flat, Int.natCast_mul, Int.toNat_of_nonneg h0, Int.mul_comm]
theorem plain_len : ∀ {ds : List D}, OkA ds → ((plainOf ds).length : Int) = lenOf ds
  | [], _ => rfl
  | d :: ds, h => by
    have h1 := elems_len (h d List.mem_cons_self)
    have h2 := plain_len (ds := ds) fun x hx => h x (List.mem_cons_of_mem _ hx)
    rw [lenOf_cons, ← h1, ← h2]
    show (((elems d ++ plainOf ds).length : Nat) : Int) = _
    rw [List.length_append, Int.natCast_add]
/-! ### the defs -/
structure Ae (K : PySem.W.Frag) (mg : Str → Option Value) (fC fF fS fL : Addr) (fdC fdF fdS fdL : FuncData) : Prop where
  FC : Fun K "check_below" "check_below" sChk fC fdC
  bC : Binds K fdC ["value", "limit"] []
  gC : mg "check_below" = some (.ref fC)
  FF : Fun K "_check_form" "_check_form" sForm fF fdF
  bF : Binds K fdF ["address"] []
  gF : mg "_check_form" = some (.ref fF)
  FS : Fun K "_steps_in" "_steps_in" sSteps fS fdS
  bS : Binds K fdS ["element"] []
  gS : mg "_steps_in" = some (.ref fS)
  FL : Fun K "length_of" "length_of" sLen fL fdL
  bL : Binds K fdL ["address"] []
  gL : mg "length_of" = some (.ref fL)
section
variable {P : Program} {w : World} {K : PySem.W.Frag} {mg : Str → Option Value} {base : Heap}
variable {fW fB fPc fPr fA : Addr} {fdW fdB fdPc fdPr fdA : FuncData} {fC fF fS fL : Addr} {fdC fdF fdS fdL : FuncData}
/-- a number that is below the limit passes -/
def spChk : Sp := fun vs H Q _ => ∃ i n : Int, vs = [.int i, .int n] ∧ 0 ≤ i ∧ i < n ∧ Q .non H
theorem ok_chk (T : Ad K mg fW fB fPc fPr fA fdW fdB fdPc fdPr fdA) (U : Ae K mg fC fF fS fL fdC fdF fdS fdL) (B : Bi mg) : FnOk P w K mg base CX0 3 fC fdC ["value", "limit"] spChk := by
  have GB : FnOk P w K mg base CX0 2 fB fdB ["value", "limit"] (spBelow K) := g_below T B
  refine U.FC.ok scChk (fun vs H Q E h => ?_) (fun cdv A outer s H vs Q E hr h => ?_)
  · obtain ⟨i, n, rfl, _⟩ := h
    rfl
  · obtain ⟨i, n, rfl, h0, h1, q⟩ := h
    refine ⟨_, (pss_one (ps_if (pt_not (pt_val (pe_call GB hr (by rfl) T.gB T.FB.kp T.bB .nil pass0 (pa_cons (pv 0) (pa_cons (pv 1) pa_nil)))))
        (pss_one ps_never)
        pss_nil)), ?_⟩
    refine ⟨.int i, rfl, .int n, rfl, .int i, .int i, n, rfl, .int i, _, rfl, ?_⟩
    rw [below_of h0 h1]
    exact iteF q
def spForm (K : PySem.W.Frag) : Sp := fun vs H Q _ => ∃ v ds, vs = [v] ∧ Rdd K H v (.tup ds) ∧ OkA ds ∧ ∀ H', Same H H' → Q .non H'
theorem ok_form (T : Ad K mg fW fB fPc fPr fA fdW fdB fdPc fdPr fdA) (U : Ae K mg fC fF fS fL fdC fdF fdS fdL) (B : Bi mg) : FnOk P w K mg base CX0 7 fF fdF ["address"] (spForm K) := by
  have GA : FnOk P w K mg base CX0 6 fA fdA ["value"] (spD K dAddr) := ok_isaddr T B
  refine U.FF.ok scForm (fun vs H Q E h => ?_) (fun cdv A outer s H vs Q E hr h => ?_)
  · obtain ⟨v, d, rfl, _⟩ := h
    rfl
  · obtain ⟨v, ds, rfl, hv, ok, q⟩ := h
    refine ⟨_, (pss_one (ps_if (pt_not (pt_val (pe_call GA hr (by rfl) T.gA T.FA.kp T.bA .nil pass0 (pa_cons (pv 0) pa_nil))))
        (pss_one ps_never)
        pss_nil)), ?_⟩
    refine ⟨v, rfl, v, _, rfl, hv, fun H' sm => ⟨_, rfl, ?_⟩⟩
    rw [ok.acc]
    exact iteF (q H' sm)
def spSteps (K : PySem.W.Frag) : Sp := fun vs H Q _ => ∃ v d, vs = [v] ∧ Rdd K H v d ∧ okEl d ∧ Q (.int (steps d)) H
theorem ok_steps (U : Ae K mg fC fF fS fL fdC fdF fdS fdL) (B : Bi mg) : FnOk P w K mg base CX0 1 fS fdS ["element"] (spSteps K) := by
  refine U.FS.ok scSteps (fun vs H Q E h => ?_) (fun cdv A outer s H vs Q E hr h => ?_)
  · obtain ⟨v, d, rfl, _⟩ := h
    rfl
  · obtain ⟨v, d, rfl, hv, ok, q⟩ := h
    refine ⟨_, (pss_cons (ps_if (pt_val (pe_callB call_isi (by rfl) B.isi (by decide +kernel) (pa_cons (pv 0) (pa_cons (pe_bltn (v := .ty "tuple") (by rfl) B.tuple (by decide +kernel) rfl) pa_nil))))
        (pss_one (ps_ret (pe_op op_mul (pe_callB call_len_seq (by rfl) B.len PySem.boot_len (pa_cons (pe_ix ix_tup (pv 0) pe_int (fun _ _ => rfl)) pa_nil)) (pe_ix ix_tup (pv 0) pe_int (fun _ _ => rfl)))))
        pss_nil)
      (pss_one (ps_ret pe_int))), ?_⟩
    refine ⟨v, rfl, v, .ty "tuple", _, _, isA "tuple" d, rfl, .ty _, hv.ty, kit_isA (by decide +kernel), isA "tuple" d, rfl, ?_⟩
    rw [isA_tuple]
    rcases ok with ⟨i, rfl, _⟩ | ⟨p, t, rfl, hp, hl, _, h0, _⟩
    · exact iteF q
    · cases hv with
      | @tup a xs ds hs ha hz =>
        obtain ⟨x, y, rfl, rx, ry⟩ := ha.pair
        cases rx with
        | @tup b ys _ hs2 ha2 hz2 =>
          cases ry
          have e := ha2.length
          refine iteT ⟨.ref a, rfl, a, _, 0, _, rfl, rfl, hs, rfl, b, ys, rfl, .inr hs2, .ref a, rfl, a, _, 1, _, rfl, rfl, hs, rfl, _, t, rfl, rfl, .inl ⟨by omega, by omega⟩, ?_⟩
          rw [e]
          exact q
end
end Sl

set_option Elab.async false
set_option linter.all false
set_option maxRecDepth 100000
set_option maxHeartbeats 400000
namespace Sl
open PySem PySem.Spec PyProof.Rows L2
abbrev sBeg : Stmt := topS 21
abbrev sPlain : Stmt := topS 20
abbrev sCut : Stmt := topS 22
theorem scBeg : FnScope ["pair", "many", "piece", "_", "rounds", "further", "whole"] ["pair", "many"] (defScope sBeg) := ⟨rfl, rfl, rfl, by decide +kernel, rfl, by decide +kernel, by decide +kernel⟩
theorem scPlain : FnScope ["address", "steps", "element"] ["address"] (defScope sPlain) := ⟨rfl, rfl, rfl, by decide +kernel, rfl, by decide +kernel, by decide +kernel⟩
theorem scCut : FnScope ["address", "length", "most", "kept", "left", "element", "many"] ["address", "length"] (defScope sCut) := ⟨rfl, rfl, rfl, by decide +kernel, rfl, by decide +kernel, by decide +kernel⟩
section
variable {K : PySem.W.Frag} {H : Hp}
theorem _root_.L2.Same.tup' {K : PySem.W.Frag} {G G' : Hp} {a : Addr} {xs : List V} (e : Same G G') (h : SqT K G a xs) : SqT K G' a xs := (Ex.same e).tup h
theorem RddAll.append : ∀ {vs ws : List V} {ds es : List D}, RddAll K H vs ds → RddAll K H ws es → RddAll K H (vs ++ ws) (ds ++ es)
  | _, _, _, _, .nil, h => h
  | _, _, _, _, .cons a b, h => .cons a (b.append h)
theorem RddAll.rep {vs : List V} {ds : List D} (h : RddAll K H vs ds) : ∀ k : Nat, RddAll K H (List.replicate k vs).flatten (List.replicate k ds).flatten
  | 0 => .nil
  | k + 1 => by
    rw [List.replicate_succ, List.replicate_succ, List.flatten_cons, List.flatten_cons]
    exact h.append (h.rep k)
theorem RddAll.take : ∀ {vs : List V} {ds : List D} (k : Nat), RddAll K H vs ds → RddAll K H (vs.take k) (ds.take k)
  | _, _, 0, _ => .nil
  | _, _, k + 1, .nil => .nil
  | _, _, k + 1, .cons a b => .cons a (b.take k)
end
section
variable {P : Program} {w : World} {K : PySem.W.Frag} {mg : Str → Option Value} {base : Heap}
variable {fW fB fPc fPr fA : Addr} {fdW fdB fdPc fdPr fdA : FuncData} {fC fF fS fL : Addr} {fdC fdF fdS fdL : FuncData}
def spLen (K : PySem.W.Frag) : Sp := fun vs H Q _ => ∃ v ds, vs = [v] ∧ Rdd K H v (.tup ds) ∧ OkA ds ∧ ∀ H', Same H H' → Q (.int (lenOf ds)) H'
theorem fm_len : ∀ ds : List D, (ds.map fun d => some (V.int (steps d))).filterMap id = (ds.map steps).map V.int
  | [] => rfl
  | d :: ds => by
    rw [List.map_cons, List.map_cons, List.map_cons, ← fm_len ds]
    rfl
theorem ok_len (T : Ad K mg fW fB fPc fPr fA fdW fdB fdPc fdPr fdA) (U : Ae K mg fC fF fS fL fdC fdF fdS fdL) (B : Bj mg) : FnOk P w K mg base CX0 8 fL fdL ["address"] (spLen K) := by
  have GF : FnOk P w K mg base CX0 7 fF fdF ["address"] (spForm K) := ok_form T U B.toBi
  have GS : FnOk P w K mg base CX0 1 fS fdS ["element"] (spSteps K) := ok_steps U B.toBi
  refine U.FL.ok scLen (fun vs H Q E h => ?_) (fun cdv A outer s H vs Q E hr h => ?_)
  · obtain ⟨v, d, rfl, _⟩ := h
    rfl
  · obtain ⟨v, ds, rfl, hv, ok, q⟩ := h
    refine ⟨_, (pss_cons (ps_expr (pe_call GF hr (by rfl) U.gF U.FF.kp U.bF .nil pass0 (pa_cons (pv 0) pa_nil)))
      (pss_one (ps_ret (pe_callB (cr_sum rfl) (by rfl) B.sum (by decide +kernel) (pa_cons (pe_lc (own := [("element", 1)]) (g := gName 1) (tt := tYes) rfl scLen.nd (pi_tup (pv 0)) (blkOk_by (own := [("element", 1)]) (N := ["address", "element"]) (sc := defScope sLen) (by decide +kernel)) (fun _ _ _ _ _ => pg_name (i := 1) scLen.nd rfl (Or.inl rfl)) (fun _ _ _ _ _ => pts_nil) (fun _ _ _ _ _ => (pe_call GS (hr.mono (by decide)) (by rfl) U.gS U.FS.kp U.bS .nil pass0 (pa_cons (pv 1) pa_nil)))) pa_nil))))), ?_⟩
    refine ⟨v, rfl, v, ds, rfl, hv, ok, fun H1 s1 => ?_⟩
    have hv1 := Rdd.ex (.same s1) _ hv
    cases hv1 with
    | @tup a xs _ hs ha hz =>
      have hl := ha.length
      refine ⟨_, rfl, a, rfl, ⟨_, hs⟩, fun D0 nD => lcT (ds.map fun d => some (V.int (steps d))) (by rw [List.length_map, hl]) (by omega) hs nD ?_ ?_⟩
      · intro i x H2 Q2 Z2 hx sm hQ _
        obtain ⟨d, hd, rd⟩ := ha.get hx
        refine ⟨rfl, ?_⟩
        refine iteT (B := Z2 H2) ⟨x, rfl, x, d, rfl, Rdd.ex (.same sm) d rd, ok d (List.mem_of_getElem? hd), hQ _ _ ?_ (Same.refl _)⟩
        rw [List.getElem?_map, hd]
        rfl
      · intro H2 sm hl2
        refine ⟨D0, ds.map steps, rfl, .inl (.inl ?_), q _ (s1.trans sm)⟩
        rw [hl2, fm_len]
def spBeg (K : PySem.W.Frag) : Sp := fun vs H Q _ => ∃ (v : V) (p : List D) (t n : Int), vs = [v, .int n] ∧ Rdd K H v (.tup [.tup p, .int t]) ∧ p ≠ [] ∧ p.length ≤ 1000 ∧ 0 ≤ n ∧
  ∀ b H' ws, H b = none → Same H H' → H' b = some (.lst ws) → RddAll K H' ws (front (.tup [.tup p, .int t]) n) → Q (.ref b) H'
theorem ok_beg {f : Addr} {fd : FuncData} (F : Fun K "_beginning" "_beginning" sBeg f fd) (B : Bj mg) : FnOk P w K mg base CX0 1 f fd ["pair", "many"] (spBeg K) := by
  refine F.ok scBeg (fun vs H Q E h => ?_) (fun cdv A outer s H vs Q E hr h => ?_)
  · obtain ⟨v, p, t, n, rfl, _⟩ := h
    rfl
  · obtain ⟨v, p, t, n, rfl, hv, hp, hpl, h0, q⟩ := h
    refine ⟨_, (pss_cons (ps_asg (pv 0) (pg_tup (by rfl) (pgs_cons (pg_name (i := 2) scBeg.nd rfl (Or.inl rfl)) (pgs_cons (pg_name (i := 3) scBeg.nd rfl (Or.inl rfl)) pgs_nil))))
      (pss_cons (ps_asg (pe_callB call_divmod (by rfl) B.divmod (by decide +kernel) (pa_cons (pv 1) (pa_cons (pe_callB call_len_seq (by rfl) B.len PySem.boot_len (pa_cons (pv 2) pa_nil)) pa_nil))) (pg_tup (by rfl) (pgs_cons (pg_name (i := 4) scBeg.nd rfl (Or.inl rfl)) (pgs_cons (pg_name (i := 5) scBeg.nd rfl (Or.inl rfl)) pgs_nil))))
      (C8.pss_cut (ps_set (i := 6) scBeg.nd rfl (Or.inl rfl) (pe_ifExp (pt_cmpR op_gt (pv 4) pe_int (nomark _)) (pe_lst (pa_cons (pe_tup (pa_cons (pv 2) (pa_cons (pv 4) pa_nil))) pa_nil)) (pe_lst pa_nil)))
      (pss_one (ps_ret (pe_op op_cat (pv 6) (pe_callTy call_list_of (by rfl) B.list (by decide +kernel) (pa_cons (pe_slice sl_tup (pv 2) po_none (po_some (pv 5))) pa_nil)))))))), ?_⟩
    cases hv with
    | @tup a xs _ hs ha hz =>
      obtain ⟨x, y, rfl, rx, ry⟩ := ha.pair
      cases rx with
      | @tup b ys _ hs2 ha2 hz2 =>
        cases ry
        have e := ha2.length
        have p0 : 0 < ys.length := by
          cases p with
          | nil => exact absurd rfl hp
          | cons _ _ => rw [e, List.length_cons]; omega
        refine ⟨.ref a, rfl, a, _, rfl, hs, rfl, _, _, rfl, _, _, rfl, rfl, ?_⟩
        refine ⟨.int n, rfl, .ref b, rfl, b, ys, rfl, .inr hs2, n, _, rfl, ⟨by omega, by omega⟩, fun c nc => ?_⟩
        have sc := Same.new (o := .tup [.int (n / (ys.length : Int)), .int (n % (ys.length : Int))]) nc
        refine ⟨c, _, rfl, SqT.of upd_same, rfl, _, _, rfl, _, _, rfl, rfl, ?_⟩
        generalize hG : upd H c (.tup [.int (n / (ys.length : Int)), .int (n % (ys.length : Int))]) = G at sc ⊢
        have r0 : 0 ≤ n % (ys.length : Int) := Int.emod_nonneg _ (by omega)
        have r1 : n % (ys.length : Int) < ys.length := Int.emod_lt_of_pos _ (by omega)
        -- the whole rounds
        refine ⟨fun σ' H' => ∃ (l : Addr) (ws : List V), σ' = [some (.ref a), some (.int n), some (.ref b), some (.int t), some (.int (n / (ys.length : Int))), some (.int (n % (ys.length : Int))), some (.ref l)] ∧ H l = none ∧ Same H H' ∧ H' l = some (.lst ws) ∧
          RddAll K H' ws (if n / (p.length : Int) > 0 then [.tup [.tup p, .int (n / (p.length : Int))]] else []) ∧ ws.length ≤ 1, ?_, ?_⟩
        · refine ⟨_, rfl, _, _, rfl, rfl, _, rfl, ite2 (fun e1 => ?_) (fun e1 => ?_)⟩
          · refine ⟨.ref b, rfl, .int (n / (ys.length : Int)), rfl, (by show 2 ≤ sizeLine; decide), fun t1 n1 => ⟨(by show 1 ≤ sizeLine; decide), fun l nl => ?_⟩⟩
            have s1 := Same.new (o := .tup [.ref b, .int (n / (ys.length : Int))]) n1
            have s2 := Same.new (o := .lst [.ref t1]) nl
            have s3 : Same H (upd (upd G t1 (.tup [.ref b, .int (n / (ys.length : Int))])) l (.lst [.ref t1])) := (sc.trans s1).trans s2
            refine ⟨l, [.ref t1], rfl, (sc.trans s1).free nl, s3, upd_same, ?_, Nat.le_refl _⟩
            have c1 : n / (p.length : Int) > 0 := by
              have := of_decide_eq_true e1
              rw [e] at this
              exact this
            rw [if_pos c1]
            refine .cons (.tup (SqT.of (xs := [.ref b, .int (n / (ys.length : Int))]) (s2 _ _ upd_same)) (.cons (.tup ((Ex.same s3).tup hs2) (RddAll.ex (.same s3) p ha2) hz2) (.cons ?_ .nil)) (by show 2 ≤ 100000; decide)) .nil
            rw [e]
            exact .int _
          · refine ⟨(by show 0 ≤ sizeLine; decide), fun l nl => ?_⟩
            have s2 := Same.new (o := .lst []) nl
            refine ⟨l, [], rfl, sc.free nl, sc.trans s2, upd_same, ?_, Nat.zero_le _⟩
            have c1 : ¬ n / (p.length : Int) > 0 := fun z => e1 (decide_eq_true (by rw [e]; exact z))
            rw [if_neg c1]
            exact .nil
        · rintro σ' H' ⟨l, ws, rfl, nl, sm, hl, hw, hwl⟩
          have hk : (n % (ys.length : Int)).toNat < ys.length := by omega
          have hcut : cutV ys none (some (n % (ys.length : Int))) = ys.take (n % (ys.length : Int)).toNat := by
            unfold cutV
            rw [show (n % (ys.length : Int)) = (((n % (ys.length : Int)).toNat : Nat) : Int) by omega, HT.sIx_nat, HT.sIx_none, List.drop_zero, Nat.sub_zero]
            congr 1
            omega
          refine ⟨.ref l, rfl, .ref b, rfl, .int (n % (ys.length : Int)), rfl, n % (ys.length : Int), rfl, b, ys, rfl, (Ex.same sm).tup hs2, ?_, fun u nu => ?_⟩
          · rintro ⟨_, z⟩
            rw [show (n % (ys.length : Int)) = (((n % (ys.length : Int)).toNat : Nat) : Int) by omega, HT.sIx_nat] at z
            omega
          · have su := Same.new (o := .tup (cutV ys none (some (n % (ys.length : Int))))) nu
            refine ⟨u, _, rfl, .inr (SqT.of upd_same), fun v2 nv => ?_⟩
            have sv := Same.new (o := .lst (cutV ys none (some (n % (ys.length : Int))))) nv
            have hl2 := sv _ _ (su _ _ hl)
            rw [hcut] at su sv hl2 nv ⊢
            have h2 : sizeLine = 16777216 := sizeLine_eq
            refine ⟨l, v2, ws, ys.take (n % (ys.length : Int)).toNat, rfl, rfl, hl2, upd_same, by rw [List.length_take]; omega, fun b2 nb => ?_⟩
            have sb := Same.new (o := .lst (ws ++ ys.take (n % (ys.length : Int)).toNat)) nb
            have s5 := ((su.trans sv).trans sb)
            refine q b2 _ _ ((sm.trans (su.trans sv)).free nb) (sm.trans s5) upd_same ?_
            have f1 := (RddAll.ex (.same s5) _ hw).append ((RddAll.ex (.same (sm.trans s5)) _ ha2).take (n % (ys.length : Int)).toNat)
            rw [e] at f1 ⊢
            exact f1
theorem sqT_put {l : Addr} {G : Hp} {xs ys : List V} (h : G l = some (.lst xs)) : Ex G (upd G l (.lst ys)) := Off.ex (a := l) .put h upd_same
theorem plain_take {ds : List D} {i : Nat} {d : D} (h : ds[i]? = some d) : plainOf (ds.take (i + 1)) = plainOf (ds.take i) ++ elems d := by
  unfold plainOf
  rw [List.take_add_one, h, List.map_append, List.flatten_append]
  simp
theorem len_take {ds : List D} (ok : OkA ds) (i : Nat) : lenOf (ds.take i) ≤ lenOf ds := by
  have e : lenOf ds = lenOf (ds.take i) + lenOf (ds.drop i) := by
    unfold lenOf
    rw [← List.sum_append, ← List.map_append, List.take_append_drop]
  have := lenOf_pos (ds := ds.drop i) fun x hx => ok x (List.mem_of_mem_drop hx)
  omega
/-- plain: the steps one by one; more than a thousand: TooMany -/
def spPlain (K : PySem.W.Frag) (C : Addr) : Sp := fun vs H Q E => ∃ v ds, vs = [v] ∧ Rdd K H v (.tup ds) ∧ OkA ds ∧
  (lenOf ds > 1000 → ∀ d H', Same H H' → H' d = none → E (.ref C) (some d) (upd H' d (.xd [(("limit" : Str), .int 1000)]))) ∧
  (lenOf ds ≤ 1000 → ∀ p H', Same H H' → Rdd K H' (.ref p) (.tup (plainOf ds)) → Q (.ref p) H')
theorem ok_plain {f C fI : Addr} {fd : FuncData} (F : Fun K "plain" "plain" sPlain f fd) (M : PySem.TmX.TmTxt K mg C fI) (g1000 : ∃ t, mg "MAX_STEPS" = some (.int 1000 t))
    (T : Ad K mg fW fB fPc fPr fA fdW fdB fdPc fdPr fdA) (U : Ae K mg fC fF fS fL fdC fdF fdS fdL) (B : Bj mg) : FnOk P w K mg base (L2.CX P w) 10 f fd ["address"] (spPlain K C) := by
  have GL : FnOk P w K mg base CX0 8 fL fdL ["address"] (spLen K) := ok_len T U B
  obtain ⟨t3, g3⟩ := g1000
  refine F.okX scPlain (fun vs H Q E h => ?_) (fun cdv A outer s H vs Q E hr h => ?_)
  · obtain ⟨v, d, rfl, _⟩ := h
    rfl
  · obtain ⟨v, ds, rfl, hv, ok, qE, qQ⟩ := h
    refine ⟨_, (pss_cons (ps_if (pt_cmpR op_gt (pe_call GL (hr.mono (by decide)) (by rfl) U.gL U.FL.kp U.bL .nil pass0 (pa_cons (pv 0) pa_nil)) (pe_glob (v := .int 1000) (by rfl) g3 ⟨_, rfl⟩) (nomark _))
        (pss_one (ps_raiseTm (k := 1) rfl M (hr.mono (by decide)) (takes_of rfl rfl rfl rfl) (pa_cons (pe_glob (v := .int 1000) (by rfl) g3 ⟨_, rfl⟩) pa_nil)))
        pss_nil)
      (PSs.nox (pss_cons (ps_set (i := 1) scPlain.nd rfl (Or.inl rfl) (pe_lst pa_nil))
      (pss_cons (ps_for PassesOwn.never rfl (pi_tup (pv 0)) (pg_name (i := 2) scPlain.nd rfl (Or.inl rfl))
        (pss_one (ps_expr (pe_bm PySem.F.plainAttrs_list PySem.F.slot_list_extend PySem.F.type_list_extend mt_extendT (pv 1) (pa_cons (pe_ifExp (pt_val (pe_callB call_isi (by rfl) B.isi (by decide +kernel) (pa_cons (pv 2) (pa_cons (pe_bltn (v := .ty "tuple") (by rfl) B.tuple (by decide +kernel) rfl) pa_nil)))) (pe_op op_repTA (pe_ix ix_tup (pv 2) pe_int (fun _ _ => rfl)) (pe_ix ix_tup (pv 2) pe_int (fun _ _ => rfl))) (pe_tup (pa_cons (pv 2) pa_nil))) pa_nil)))))
      (pss_one (ps_ret (pe_callTy call_tuple_of (by rfl) B.tuple (by decide +kernel) (pa_cons (pv 1) pa_nil)))))))), ?_⟩
    refine ⟨v, rfl, v, ds, rfl, hv, ok, fun H1 s1 => ⟨lenOf ds, 1000, rfl, rfl, _, rfl, ite2 (fun e => ?_) (fun e => ?_)⟩⟩
    · exact ⟨.int 1000, rfl, fun d nd => qE (of_decide_eq_true e) d H1 s1 nd⟩
    · have hle : lenOf ds ≤ 1000 := by
        have := of_decide_eq_false (Bool.not_eq_true _ ▸ e)
        omega
      have hv1 := Rdd.ex (.same s1) _ hv
      cases hv1 with
      | @tup a xs _ hs ha hz =>
        have hl := ha.length
        refine ⟨Nat.zero_le _, fun l nl => ?_⟩
        have sl := Same.new (o := .lst []) nl
        refine ⟨.ref a, rfl, a, rfl, ⟨_, sl.tup' hs⟩, for_tup (K := K) (a := a) (xs := xs) (fun i σ' H' => ∃ zs y, σ' = [some (.ref a), some (.ref l), y] ∧ Same H1 H' ∧ H' l = some (.lst zs) ∧ RddAll K H' zs (plainOf (ds.take i)))
          ⟨[], none, rfl, sl, upd_same, .nil⟩ (fun i σ' H' _ ⟨zs, y, _, sm, _⟩ => sm.tup' hs) ?_ ?_⟩
        · rintro i x σ' H' hx ⟨zs, y, rfl, sm, hl2, hr2⟩
          obtain ⟨d, hd, rd⟩ := ha.get hx
          have okd := ok d (List.mem_of_getElem? hd)
          have rd2 := Rdd.ex (.same sm) d rd
          have z1 := hr2.length
          have z2 := plain_len (ds := ds.take (i + 1)) fun q hq => ok q (List.mem_of_mem_take hq)
          have z3 := len_take ok (i + 1)
          have z4 : (plainOf (ds.take (i + 1))).length = zs.length + (elems d).length := by rw [plain_take hd, List.length_append, z1]
          have hline : sizeLine = 16777216 := sizeLine_eq
          -- the list takes the items
          have fin : ∀ (b : Addr) (H3 : Hp) (ws : List V), Same H' H3 → SqT K H3 b ws → RddAll K H3 ws (elems d) →
              ∃ l0 b0 xs0 zs0, V.ref l = .ref l0 ∧ [V.ref b] = [.ref b0] ∧ H3 l0 = some (.lst xs0) ∧ SqT K H3 b0 zs0 ∧ xs0.length + zs0.length ≤ sizeLine ∧
                ∃ zs y, [some (V.ref a), some (V.ref l), some x] = [some (.ref a), some (.ref l), y] ∧ Same H1 (upd H3 l0 (.lst (xs0 ++ zs0))) ∧ (upd H3 l0 (.lst (xs0 ++ zs0))) l = some (.lst zs) ∧ RddAll K (upd H3 l0 (.lst (xs0 ++ zs0))) zs (plainOf (ds.take (i + 1))) := by
            intro b H3 ws sm3 hb hw
            have hl3 := sm3 _ _ hl2
            have z5 := hw.length
            refine ⟨l, b, zs, ws, rfl, rfl, hl3, hb, by omega, zs ++ ws, some x, rfl, fun c o q => ?_, upd_same, ?_⟩
            · have nc : c ≠ l := ne_of_none q nl
              rw [upd_ne nc]
              exact sm3 _ _ (sm _ _ q)
            · rw [plain_take hd]
              exact (RddAll.ex (sqT_put hl3) _ (RddAll.ex (.same sm3) _ hr2)).append (RddAll.ex (sqT_put hl3) _ hw)
          refine ⟨.ref l, rfl, .inl ⟨rfl, _, SqL.of hl2⟩, ?_⟩
          refine ⟨x, rfl, x, .ty "tuple", _, _, isA "tuple" d, rfl, .ty _, rd2.ty, kit_isA (by decide +kernel), isA "tuple" d, rfl, ?_⟩
          rw [isA_tuple]
          rcases okd with ⟨k, rfl, _⟩ | ⟨p, t, rfl, hp, hpl, _, h0, _⟩
          · refine iteF ⟨x, rfl, (by show 1 ≤ sizeLine; decide), fun u nu => ?_⟩
            have su := Same.new (o := .tup [x]) nu
            exact fin u _ [x] su (SqT.of upd_same) (.cons (Rdd.ex (.same su) _ rd2) .nil)
          · cases rd2 with
            | @tup a2 xs2 _ hs2 ha2 hz2 =>
              obtain ⟨x2, y2, rfl, rx2, ry2⟩ := ha2.pair
              cases rx2 with
              | @tup b ys _ hs3 ha3 hz3 =>
                cases ry2
                have e3 := ha3.length
                have pn : ys ≠ [] := fun z => by
                  subst z
                  exact hp (List.eq_nil_of_length_eq_zero e3.symm)
                have p0 : 0 < p.length := by
                  cases p with
                  | nil => exact absurd rfl hp
                  | cons _ _ => exact Nat.succ_pos _
                have el : ((elems (.tup [.tup p, .int t])).length : Int) = p.length * t := elems_len (.inr ⟨p, t, rfl, hp, hpl, by assumption, h0, by assumption⟩)
                have tle : t ≤ 1000 := by
                  have h5 : 1 * t ≤ p.length * t := Int.mul_le_mul_of_nonneg_right (by omega) h0
                  omega
                refine iteT ⟨.ref a2, rfl, a2, _, 0, _, rfl, rfl, hs2, rfl, .ref a2, rfl, a2, _, 1, _, rfl, rfl, hs2, rfl, b, t, ys, rfl, rfl, hs3, pn, h0, tle, by omega, fun t1 => ?_, fun t1 u nu => ?_⟩
                · subst t1
                  refine fin b _ ys (Same.refl _) hs3 ?_
                  show RddAll K H' ys (List.replicate 1 p).flatten
                  simpa using ha3
                · have su := Same.new (o := .tup (List.replicate t.toNat ys).flatten) nu
                  exact fin u _ _ su (SqT.of upd_same) ((RddAll.ex (.same su) _ ha3).rep t.toNat)
        · rintro σ' H' ⟨zs, y, rfl, sm, hl2, hr2⟩
          rw [hl, List.take_length] at hr2
          have z1 := hr2.length
          have z2 := plain_len ok
          refine ⟨.ref l, rfl, l, zs, rfl, .inl ⟨SqL.of hl2, fun u nu => ?_⟩⟩
          have su := Same.new (o := .tup zs) nu
          exact qQ hle u _ ((s1.trans sm).trans su) (.tup (SqT.of upd_same) (RddAll.ex (.same su) _ hr2) (by omega))
theorem cut_zero : ∀ ds : List D, cutOf ds 0 = []
  | [] => rfl
  | _ :: _ => if_pos rfl
def spCut (K : PySem.W.Frag) : Sp := fun vs H Q _ => ∃ v ds n, vs = [v, .int n] ∧ Rdd K H v (.tup ds) ∧ OkA ds ∧ ds.length ≤ 1000 ∧ 0 ≤ n ∧ n ≤ lenOf ds ∧ ∀ p H', Same H H' → Rdd K H' (.ref p) (.tup (cutOf ds n)) → Q (.ref p) H'
theorem front_len {d : D} (h : okEl d) (n : Int) : (front d n).length ≤ 1001 := by
  rcases h with ⟨i, rfl, _⟩ | ⟨p, t, rfl, _, hl, _⟩
  · exact Nat.zero_le _
  · show ((if n / (p.length : Int) > 0 then [D.tup [.tup p, .int (n / p.length)]] else []) ++ p.take (n % p.length).toNat).length ≤ 1001
    rw [List.length_append, List.length_take]
    split <;> simp <;> omega
theorem cut_len : ∀ {ds : List D} (n : Int), OkA ds → (cutOf ds n).length ≤ ds.length + 1001
  | [], _, _ => Nat.zero_le _
  | d :: ds, n, h => by
    have h1 := front_len (h d List.mem_cons_self) n
    have h2 := cut_len (ds := ds) (n - steps d) fun x hx => h x (List.mem_cons_of_mem _ hx)
    unfold cutOf
    split
    · exact Nat.zero_le _
    · split
      · rw [List.length_cons, List.length_cons]
        omega
      · omega
theorem ok_cut {f fN : Addr} {fd fdN : FuncData} (F : Fun K "cut" "cut" sCut f fd) (FN : Fun K "_beginning" "_beginning" sBeg fN fdN) (bN : Binds K fdN ["pair", "many"] []) (gN : mg "_beginning" = some (.ref fN))
    (T : Ad K mg fW fB fPc fPr fA fdW fdB fdPc fdPr fdA) (U : Ae K mg fC fF fS fL fdC fdF fdS fdL) (B : Bj mg) : FnOk P w K mg base CX0 9 f fd ["address", "length"] (spCut K) := by
  have GL : FnOk P w K mg base CX0 8 fL fdL ["address"] (spLen K) := ok_len T U B
  have GK : FnOk P w K mg base CX0 3 fC fdC ["value", "limit"] spChk := ok_chk T U B.toBi
  have GS : FnOk P w K mg base CX0 1 fS fdS ["element"] (spSteps K) := ok_steps U B.toBi
  have GN : FnOk P w K mg base CX0 1 fN fdN ["pair", "many"] (spBeg K) := ok_beg FN B
  refine F.ok scCut (fun vs H Q E h => ?_) (fun cdv A outer s H vs Q E hr h => ?_)
  · obtain ⟨v, d, n, rfl, _⟩ := h
    rfl
  · obtain ⟨v, ds, n, rfl, hv, ok, small, n0, n1, q⟩ := h
    refine ⟨_, (pss_cons (ps_set (i := 2) scCut.nd rfl (Or.inl rfl) (pe_call GL hr (by rfl) U.gL U.FL.kp U.bL .nil pass0 (pa_cons (pv 0) pa_nil)))
      (pss_cons (ps_expr (pe_call GK (hr.mono (by decide)) (by rfl) U.gC U.FC.kp U.bC .nil pass0 (pa_cons (pv 1) (pa_cons (pe_op op_add (pv 2) pe_int) pa_nil))))
      (pss_cons (ps_set (i := 3) scCut.nd rfl (Or.inl rfl) (pe_lst pa_nil))
      (pss_cons (ps_set (i := 4) scCut.nd rfl (Or.inl rfl) (pv 1))
      (pss_cons (ps_for PassesOwn.never rfl (pi_tup (pv 0)) (pg_name (i := 5) scCut.nd rfl (Or.inl rfl))
        (pss_cons (ps_if (pt_cmpR op_eq (pv 4) pe_int (nomark _))
        (pss_one ps_break)
        pss_nil)
      (pss_cons (ps_set (i := 6) scCut.nd rfl (Or.inl rfl) (pe_call GS (hr.mono (by decide)) (by rfl) U.gS U.FS.kp U.bS .nil pass0 (pa_cons (pv 5) pa_nil)))
      (pss_one (ps_if (pt_cmpR op_le (pv 6) (pv 4) (nomark _))
        (pss_cons (ps_expr (pe_bm PySem.F.plainAttrs_list PySem.F.slot_list_append PySem.F.type_list_append mt_append (pv 3) (pa_cons (pv 5) pa_nil)))
      (pss_one (ps_aug (i := 4) scCut.nd rfl (Or.inl rfl) (pv 6) ip_sub)))
        (pss_cons (ps_expr (pe_bm PySem.F.plainAttrs_list PySem.F.slot_list_extend PySem.F.type_list_extend mt_extend (pv 3) (pa_cons (pe_call GN (hr.mono (by decide)) (by rfl) gN FN.kp bN .nil pass0 (pa_cons (pv 5) (pa_cons (pv 4) pa_nil))) pa_nil)))
      (pss_one (ps_set (i := 4) scCut.nd rfl (Or.inl rfl) pe_int))))))))
      (pss_one (ps_ret (pe_callTy call_tuple_of (by rfl) B.tuple (by decide +kernel) (pa_cons (pv 3) pa_nil))))))))), ?_⟩
    refine ⟨v, rfl, v, ds, rfl, hv, ok, fun H1 s1 => ⟨.int n, rfl, .int (lenOf ds), rfl, _, _, rfl, rfl, n, _, rfl, n0, by omega, Nat.zero_le _, fun l nl => ⟨.int n, rfl, ?_⟩⟩⟩
    have hv1 := Rdd.ex (.same s1) _ hv
    cases hv1 with
    | @tup a xs _ hs ha hz =>
      have hl := ha.length
      have sl := Same.new (o := .lst []) nl
      have hline : sizeLine = 16777216 := sizeLine_eq
      have cl := cut_len n ok
      refine ⟨.ref a, rfl, a, rfl, ⟨_, sl.tup' hs⟩, for_tup (K := K) (a := a) (xs := xs) (fun i σ' H' => ∃ zs ks left y z, σ' = [some (.ref a), some (.int n), some (.int (lenOf ds)), some (.ref l), some (.int left), y, z] ∧ Same H1 H' ∧ H' l = some (.lst zs) ∧
          RddAll K H' zs ks ∧ ks ++ cutOf (ds.drop i) left = cutOf ds n ∧ 0 ≤ left)
        ⟨[], [], n, none, none, rfl, sl, upd_same, .nil, rfl, n0⟩ (fun i σ' H' _ ⟨zs, ks, left, y, z, _, sm, _⟩ => sm.tup' hs) ?_ ?_⟩
      · rintro i x σ' H' hx ⟨zs, ks, left, y, z, rfl, sm, hl2, hr2, hc, l0⟩
        obtain ⟨d, hd, rd⟩ := ha.get hx
        have okd := ok d (List.mem_of_getElem? hd)
        have rd2 := Rdd.ex (.same sm) d rd
        have z1 := hr2.length
        have z2 : ks.length ≤ (cutOf ds n).length := by rw [← hc, List.length_append]; omega
        have hdrop : ds.drop i = d :: ds.drop (i + 1) := by
          have hi := (List.getElem?_eq_some_iff.mp hd).1
          have e1 := (List.getElem?_eq_some_iff.mp hd).2
          rw [List.drop_eq_getElem_cons hi, e1]
        rw [hdrop] at hc
        refine ⟨.int left, rfl, rfl, _, rfl, ite2 (fun e => ?_) (fun e => ?_)⟩
        · -- all steps are taken: break
          have e0 : left = 0 := V.int.inj (of_decide_eq_true e)
          subst e0
          rw [cut_zero, List.append_nil] at hc
          refine ⟨.ref l, rfl, l, zs, rfl, .inl ⟨SqL.of hl2, fun u nu => ?_⟩⟩
          have su := Same.new (o := .tup zs) nu
          rw [hc] at hr2
          exact q u _ ((s1.trans sm).trans su) (.tup (SqT.of upd_same) (RddAll.ex (.same su) _ hr2) (by omega))
        · have e0 : left ≠ 0 := fun z => e (decide_eq_true (by rw [z]))
          refine ⟨x, rfl, x, d, rfl, rd2, okd, .int (steps d), rfl, .int left, rfl, _, _, rfl, rfl, _, rfl, ite2 (fun e1 => ?_) (fun e1 => ?_)⟩
          · -- the whole element
            have h1 : steps d ≤ left := of_decide_eq_true e1
            refine ⟨.ref l, rfl, .inl ⟨rfl, _, SqL.of hl2⟩, x, rfl, l, zs, _, rfl, rfl, hl2, by omega, ?_⟩
            refine ⟨.int left, rfl, .int (steps d), rfl, _, _, rfl, rfl, zs ++ [x], ks ++ [d], left - steps d, some x, some (.int (steps d)), rfl, fun c o p => ?_, upd_same, ?_, ?_, by omega⟩
            · have nc : c ≠ l := ne_of_none p nl
              rw [upd_ne nc]
              exact sm _ _ p
            · exact (RddAll.ex (sqT_put hl2) _ hr2).append (.cons (Rdd.ex (sqT_put hl2) _ rd2) .nil)
            · rw [← hc]
              show _ = ks ++ (if left = 0 then [] else if steps d ≤ left then d :: cutOf (ds.drop (i + 1)) (left - steps d) else front d left)
              rw [if_neg e0, if_pos h1, List.append_assoc]
              rfl
          · -- its beginning
            have h1 : ¬ steps d ≤ left := fun z => e1 (decide_eq_true z)
            have hfront : ks ++ front d left = cutOf ds n := by
              rw [← hc]
              show _ = ks ++ (if left = 0 then [] else if steps d ≤ left then d :: cutOf (ds.drop (i + 1)) (left - steps d) else front d left)
              rw [if_neg e0, if_neg h1]
            rcases okd with ⟨k, rfl, _⟩ | ⟨p, t, rfl, hp, hpl, _⟩
            · exact absurd (show (1 : Int) ≤ left by omega) h1
            · refine ⟨.ref l, rfl, .inl ⟨rfl, _, SqL.of hl2⟩, x, rfl, .int left, rfl, x, p, t, left, rfl, rd2, hp, hpl, l0, fun b H3 ws nb sm3 hb hw => ?_⟩
              have hl3 := sm3 _ _ hl2
              have z5 := hw.length
              have z6 : (ks ++ front (.tup [.tup p, .int t]) left).length = (cutOf ds n).length := by rw [hfront]
              rw [List.length_append] at z6
              refine ⟨l, b, zs, ws, rfl, rfl, hl3, hb, by omega, ?_⟩
              refine ⟨zs ++ ws, ks ++ front (.tup [.tup p, .int t]) left, 0, some x, some (.int (steps (.tup [.tup p, .int t]))), rfl, fun c o p => ?_, upd_same, ?_, ?_, Int.le_refl _⟩
              · have nc : c ≠ l := ne_of_none p nl
                rw [upd_ne nc]
                exact sm3 _ _ (sm _ _ p)
              · exact (RddAll.ex (sqT_put hl3) _ (RddAll.ex (.same sm3) _ hr2)).append (RddAll.ex (sqT_put hl3) _ hw)
              · rw [cut_zero, List.append_nil, hfront]
      · rintro σ' H' ⟨zs, ks, left, y, z, rfl, sm, hl2, hr2, hc, l0⟩
        rw [hl, List.drop_length] at hc
        have hc2 : ks = cutOf ds n := by
          rw [← hc]
          exact (List.append_nil _).symm
        subst hc2
        refine ⟨.ref l, rfl, l, zs, rfl, .inl ⟨SqL.of hl2, fun u nu => ?_⟩⟩
        have z1 := hr2.length
        have su := Same.new (o := .tup zs) nu
        exact q u _ ((s1.trans sm).trans su) (.tup (SqT.of upd_same) (RddAll.ex (.same su) _ hr2) (by omega))
end
end Sl

set_option Elab.async false
set_option linter.all false
set_option maxRecDepth 100000
set_option maxHeartbeats 400000
namespace Sl
open PySem PySem.Spec PyProof.Rows L2
abbrev sLLen : Stmt := topS 28
abbrev sLRows : Stmt := topS 29
abbrev sLWh : Stmt := topS 30
abbrev sLEl : Stmt := topS 31
abbrev sLAd : Stmt := topS 32
theorem scLLen : FnScope ["_law_address_here", "_law_one"] ["_law_address_here"] (defScope sLLen) := ⟨rfl, rfl, rfl, by decide +kernel, rfl, by decide +kernel, by decide +kernel⟩
theorem scLRows : FnScope ["_law_address_here", "_law_found", "_law_one"] ["_law_address_here"] (defScope sLRows) := ⟨rfl, rfl, rfl, by decide +kernel, rfl, by decide +kernel, by decide +kernel⟩
theorem scLWh : FnScope ["_law_value", "_law_low", "_law_high"] ["_law_value", "_law_low", "_law_high"] (defScope sLWh) := ⟨rfl, rfl, rfl, by decide +kernel, rfl, by decide +kernel, by decide +kernel⟩
theorem scLEl : FnScope ["_law_value", "_law_one"] ["_law_value"] (defScope sLEl) := ⟨rfl, rfl, rfl, by decide +kernel, rfl, by decide +kernel, by decide +kernel⟩
theorem scLAd : FnScope ["_law_value", "_law_one"] ["_law_value"] (defScope sLAd) := ⟨rfl, rfl, rfl, by decide +kernel, rfl, by decide +kernel, by decide +kernel⟩
structure Lf (K : PySem.W.Frag) (mg : Str → Option Value) (fLn fRo fWh fEl fIa : Addr) (fdLn fdRo fdWh fdEl fdIa : FuncData) : Prop where
  FLn : Fun K "_law_length" "_law_length" sLLen fLn fdLn
  bLn : Binds K fdLn ["_law_address_here"] []
  gLn : mg "_law_length" = some (.ref fLn)
  FRo : Fun K "_law_rows" "_law_rows" sLRows fRo fdRo
  bRo : Binds K fdRo ["_law_address_here"] []
  gRo : mg "_law_rows" = some (.ref fRo)
  FW : Fun K "_law_is_whole" "_law_is_whole" sLWh fWh fdWh
  bW : Binds K fdWh ["_law_value", "_law_low", "_law_high"] []
  gW : mg "_law_is_whole" = some (.ref fWh)
  FE : Fun K "_law_is_element" "_law_is_element" sLEl fEl fdEl
  bE : Binds K fdEl ["_law_value"] []
  gE : mg "_law_is_element" = some (.ref fEl)
  FIa : Fun K "_law_is_address" "_law_is_address" sLAd fIa fdIa
  bIa : Binds K fdIa ["_law_value"] []
  gIa : mg "_law_is_address" = some (.ref fIa)
def dIn (lo hi : Int) : D → Bool
  | .int i => decide (lo ≤ i) && decide (i ≤ hi)
  | _ => false
theorem dIn_below (n : Int) (d : D) : dIn 0 (n - 1) d = dBelow n d := by
  cases d with
  | int i =>
    show (decide (0 ≤ i) && decide (i ≤ n - 1)) = (decide (0 ≤ i) && decide (i < n))
    congr 1
    exact decide_eq_decide.mpr ⟨fun h => by omega, fun h => by omega⟩
  | _ => rfl
section
variable {P : Program} {w : World} {K : PySem.W.Frag} {mg : Str → Option Value} {base : Heap}
variable {fLn fRo fWh fEl fIa : Addr} {fdLn fdRo fdWh fdEl fdIa : FuncData}
def spIn (K : PySem.W.Frag) : Sp := fun vs H Q _ => ∃ v d lo hi, vs = [v, .int lo, .int hi] ∧ Rdd K H v d ∧ Q (.bl (dIn lo hi d)) H
theorem ok_lwhole (T : Lf K mg fLn fRo fWh fEl fIa fdLn fdRo fdWh fdEl fdIa) (B : Bi mg) : FnOk P w K mg base CX0 1 fWh fdWh ["_law_value", "_law_low", "_law_high"] (spIn K) := by
  refine T.FW.ok scLWh (fun vs H Q E h => ?_) (fun cdv A outer s H vs Q E hr h => ?_)
  · obtain ⟨v, d, lo, hi, rfl, _⟩ := h
    rfl
  · obtain ⟨v, d, lo, hi, rfl, hv, q⟩ := h
    refine ⟨_, (pss_one (ps_ret (pe_and (pe_callB call_isi (by rfl) B.isi (by decide +kernel) (pa_cons (pv 0) (pa_cons (pe_bltn (v := .ty "int") (by rfl) B.int (by decide +kernel) rfl) pa_nil))) (pe_and (pe_not (pe_callB call_isi (by rfl) B.isi (by decide +kernel) (pa_cons (pv 0) (pa_cons (pe_bltn (v := .ty "bool") (by rfl) B.bool (by decide +kernel) rfl) pa_nil)))) (pe_one (pe_chain op_le op_le (pv 1) (pv 0) (pv 2))))))), ?_⟩
    refine ⟨v, rfl, v, .ty "int", _, _, isA "int" d, rfl, .ty _, hv.ty, kit_isA (by decide +kernel), isA "int" d, rfl, ?_⟩
    rw [isA_int]
    cases hv with
    | int i =>
      refine iteT ⟨.int i, rfl, .int i, .ty "bool", _, _, isA "bool" (.int i), rfl, .ty _, (Rdd.int (K := K) (H := H) i).ty, kit_isA (by decide +kernel), isA "bool" (.int i), rfl, _, rfl, ?_⟩
      rw [isA_bool]
      refine iteT ⟨.int lo, rfl, .int i, rfl, _, _, rfl, rfl, _, rfl, ite2 (fun e => ⟨.int hi, rfl, _, _, rfl, rfl, ?_⟩) (fun e => ?_)⟩
      · have z : dIn lo hi (.int i) = decide (i ≤ hi) := by
          show (decide (lo ≤ i) && decide (i ≤ hi)) = _
          rw [show decide (lo ≤ i) = true from e, Bool.true_and]
        rw [z] at q
        exact q
      · have z : dIn lo hi (.int i) = false := by
          show (decide (lo ≤ i) && decide (i ≤ hi)) = _
          rw [Bool.eq_false_iff.mpr e, Bool.false_and]
        rw [z] at q
        exact q
    | bl b =>
      refine iteT ⟨.bl b, rfl, .bl b, .ty "bool", _, _, isA "bool" (.bl b), rfl, .ty _, (Rdd.bl (K := K) (H := H) b).ty, kit_isA (by decide +kernel), isA "bool" (.bl b), rfl, _, rfl, ?_⟩
      rw [isA_bool]
      exact iteF q
    | _ => exact iteF q
def spEl (K : PySem.W.Frag) : Sp := fun vs H Q _ => ∃ v d, vs = [v] ∧ Rdd K H v d ∧ ∀ H', Same H H' → Q (.bl (dBelow 3 d || dPair d)) H'
/-- what a filter by a test leaves is empty exactly if none passes the test -/
theorem fm_none (f : D → Bool) : ∀ (ds : List D) (xs : List V), xs.length = ds.length → (((ds.zip xs).map fun p => if f p.1 = true then none else some p.2).filterMap id).isEmpty = ds.all f
  | [], _, _ => rfl
  | d :: ds, [], h => by cases h
  | d :: ds, x :: xs, h => by
    have ih := fm_none f ds xs (by simpa using h)
    cases e : f d with
    | true =>
      rw [List.zip_cons_cons, List.map_cons, List.all_cons, e, Bool.true_and, if_pos rfl, ← ih]
      rfl
    | false =>
      rw [List.zip_cons_cons, List.map_cons, List.all_cons, e, Bool.false_and, if_neg Bool.false_ne_true]
      rfl
theorem zip_at {ds : List D} {xs : List V} {i : Nat} {d : D} {x : V} (f : D → Bool) (h1 : ds[i]? = some d) (h2 : xs[i]? = some x) : ((ds.zip xs).map fun p => if f p.1 = true then none else some p.2)[i]? = some (if f d = true then none else some x) := by
  rw [List.getElem?_map, List.getElem?_zip_eq_some (z := (d, x)) |>.mpr ⟨h1, h2⟩]
  rfl
theorem ok_lel (T : Lf K mg fLn fRo fWh fEl fIa fdLn fdRo fdWh fdEl fdIa) (B : Bi mg) : FnOk P w K mg base CX0 2 fEl fdEl ["_law_value"] (spEl K) := by
  have GW : FnOk P w K mg base CX0 1 fWh fdWh ["_law_value", "_law_low", "_law_high"] (spIn K) := ok_lwhole T B
  refine T.FE.ok scLEl (fun vs H Q E h => ?_) (fun cdv A outer s H vs Q E hr h => ?_)
  · obtain ⟨v, d, rfl, _⟩ := h
    rfl
  · obtain ⟨v, d, rfl, hv, q⟩ := h
    refine ⟨_, (pss_cons (ps_if (pt_not (pt_val (pe_callB call_isi (by rfl) B.isi (by decide +kernel) (pa_cons (pv 0) (pa_cons (pe_bltn (v := .ty "tuple") (by rfl) B.tuple (by decide +kernel) rfl) pa_nil)))))
        (pss_one (ps_ret (pe_call GW hr (by rfl) T.gW T.FW.kp T.bW .nil pass0 (pa_cons (pv 0) (pa_cons pe_int (pa_cons pe_int pa_nil))))))
        pss_nil)
      (pss_cons (ps_if (PW.pt (pw_or (pt_cmpR op_ne (pe_callB call_len_seq (by rfl) B.len PySem.boot_len (pa_cons (pv 0) pa_nil)) pe_int (nomark _)) (pw_or (pt_not (pt_val (pe_callB call_isi (by rfl) B.isi (by decide +kernel) (pa_cons (pe_ix ix_tup (pv 0) pe_int (fun _ _ => rfl)) (pa_cons (pe_bltn (v := .ty "tuple") (by rfl) B.tuple (by decide +kernel) rfl) pa_nil))))) (pw_or1 (pt_cmpR (op_eqT0 hr.units0) (pe_ix ix_tup (pv 0) pe_int (fun _ _ => rfl)) (pe_tup pa_nil) (nomark _))))))
        (pss_one (ps_ret pe_bl))
        pss_nil)
      (pss_one (ps_ret (pe_and (pe_cmpR (op_eqL0 hr.units) (pe_lc (own := [("_law_one", 1)]) (g := gName 1) rfl scLEl.nd (pi_tup (pe_ix ix_tup (pv 0) pe_int (fun _ _ => rfl))) (blkOk_by (own := [("_law_one", 1)]) (N := ["_law_value", "_law_one"]) (sc := defScope sLEl) (by decide +kernel)) (fun _ _ _ _ _ => pg_name (i := 1) scLEl.nd rfl (Or.inl rfl)) (fun _ _ _ _ _ => pts_one (pt_not (pt_val (pe_call GW hr (by rfl) T.gW T.FW.kp T.bW .nil pass0 (pa_cons (pv 1) (pa_cons pe_int (pa_cons pe_int pa_nil))))))) (fun _ _ _ _ _ => (pv 1))) (pe_lst pa_nil) (nomark _)) (pe_one (pe_call GW hr (by rfl) T.gW T.FW.kp T.bW .nil pass0 (pa_cons (pe_ix ix_tup (pv 0) pe_int (fun _ _ => rfl)) (pa_cons pe_int (pa_cons (pe_op op_powW pe_int pe_int) pa_nil)))))))))), ?_⟩
    refine ⟨v, rfl, v, .ty "tuple", _, _, isA "tuple" d, rfl, .ty _, hv.ty, kit_isA (by decide +kernel), isA "tuple" d, rfl, ?_⟩
    rw [isA_tuple]
    have hv0 := hv
    have flat : dPair d = false → Q (.bl (dIn 0 2 d)) H := fun e1 => by
      have z := q H (Same.refl _)
      rw [e1, Bool.or_false, ← dIn_below] at z
      exact z
    cases hv with
    | @tup a xs ds hs ha hz =>
      have hl := ha.length
      refine iteF ⟨.ref a, rfl, a, _, rfl, .inr hs, rfl, _, rfl, ?_⟩
      by_cases h2 : xs.length = 2
      · have z : decide ((V.int ↑xs.length) = (V.int 2)) = true := decide_eq_true (by rw [h2]; rfl)
        obtain ⟨x, y, rfl⟩ := two_of h2
        obtain ⟨p, t, rfl, rx, ry⟩ := ha.two
        rw [show (decide ((V.int ↑([x, y] : List V).length) = (V.int 2))) = true from z]
        refine iteF ⟨.ref a, rfl, a, _, 0, x, rfl, rfl, hs, rfl, x, .ty "tuple", _, _, isA "tuple" p, rfl, .ty _, rx.ty, kit_isA (by decide +kernel), isA "tuple" p, rfl, ?_⟩
        rw [isA_tuple]
        have z2 := q
        cases rx with
        | @tup b ys ps hs2 ha2 hz2 =>
          have hl2 := ha2.length
          refine iteF ⟨.ref a, rfl, a, _, 0, _, rfl, rfl, hs, rfl, Nat.zero_le _, fun c nc => ?_⟩
          have sc := Same.new (o := .tup []) nc
          refine ⟨b, c, ys, rfl, rfl, sc.tup' hs2, SqT.of upd_same, _, rfl, ?_⟩
          cases ys with
          | nil =>
            have e0 : ps = [] := List.eq_nil_of_length_eq_zero hl2.symm
            subst e0
            exact iteT (q _ sc)
          | cons y0 ys =>
            have hp : ps.isEmpty = false := by
              cases ps with
              | nil => cases hl2
              | cons _ _ => rfl
            refine iteF ?_
            refine ⟨.ref a, rfl, a, _, 0, _, rfl, rfl, sc.tup' hs, rfl, b, rfl, ⟨_, sc.tup' hs2⟩, fun D0 nD => lcT ((ps.zip (y0 :: ys)).map fun p => if dBelow 3 p.1 = true then none else some p.2) (by rw [List.length_map, List.length_zip, hl2]; omega) (by omega) (sc.tup' hs2) nD ?_ ?_⟩
            · intro i x H2 Q2 Z2 hx sm hQ hZ
              obtain ⟨d, hd, rd⟩ := ha2.get hx
              have hi := zip_at (dBelow 3) hd hx
              refine ⟨rfl, x, rfl, x, d, 0, 2, rfl, Rdd.ex (.same (sc.trans sm)) d rd, _, rfl, ?_⟩
              rw [show dIn 0 2 d = dBelow 3 d from dIn_below 3 d]
              cases e : dBelow 3 d with
              | true =>
                rw [e, if_pos rfl] at hi
                exact iteF (hZ _ hi (Same.refl _))
              | false =>
                rw [e, if_neg Bool.false_ne_true] at hi
                exact iteT ⟨x, rfl, hQ x _ hi (Same.refl _)⟩
            · intro H2 sm hl3
              refine ⟨Nat.zero_le _, fun D1 nD1 => ?_⟩
              have s1 := Same.new (o := .lst []) nD1
              refine ⟨D0, D1, _, rfl, rfl, SqL.of (s1 _ _ hl3), SqL.of upd_same, _, rfl, ?_⟩
              rw [fm_none (dBelow 3) ps (y0 :: ys) hl2]
              have s4 := (sc.trans sm).trans s1
              have zz : (dBelow 3 (.tup [.tup ps, t]) || dPair (.tup [.tup ps, t])) = (ps.all (dBelow 3) && dBelow lim1 t) := by
                show (false || ((!ps.isEmpty && ps.all (dBelow 3)) && dBelow lim1 t)) = _
                rw [hp]
                rfl
              cases e : ps.all (dBelow 3) with
              | true =>
                refine iteT ⟨.ref a, rfl, a, _, 1, y, rfl, rfl, s4.tup' hs, rfl, 10, 30, rfl, rfl, ⟨by decide, by decide +kernel⟩, y, t, 0, _, rfl, Rdd.ex (.same s4) t ry, ?_⟩
                rw [show dIn 0 ((10 : Int) ^ (30 : Int).toNat) t = dBelow lim1 t from dIn_below lim1 t]
                have z3 := q _ s4
                rw [zz, e, Bool.true_and] at z3
                exact z3
              | false =>
                refine iteF ?_
                have z3 := q _ s4
                rw [zz, e, Bool.false_and] at z3
                exact z3
        | _ => exact iteT (q _ (Same.refl _))
      · have z : decide ((V.int ↑xs.length) = (V.int 2)) = false := decide_eq_false (fun e => h2 (by have := V.int.inj e; omega))
        rw [show (decide ((V.int ↑xs.length) = (V.int 2))) = false from z]
        refine iteT ?_
        have z2 := q H (Same.refl _)
        rw [not_two (by omega)] at z2
        exact z2
    | _ => exact iteT ⟨_, rfl, _, _, 0, 2, rfl, hv0, flat rfl⟩
theorem ok_lad (T : Lf K mg fLn fRo fWh fEl fIa fdLn fdRo fdWh fdEl fdIa) (B : Bi mg) : FnOk P w K mg base CX0 3 fIa fdIa ["_law_value"] (spD K dAddr) := by
  have GE : FnOk P w K mg base CX0 2 fEl fdEl ["_law_value"] (spEl K) := ok_lel T B
  refine T.FIa.ok scLAd (fun vs H Q E h => ?_) (fun cdv A outer s H vs Q E hr h => ?_)
  · obtain ⟨v, d, rfl, _⟩ := h
    rfl
  · obtain ⟨v, d, rfl, hv, q⟩ := h
    refine ⟨_, (pss_one (ps_ret (pe_and (pe_callB call_isi (by rfl) B.isi (by decide +kernel) (pa_cons (pv 0) (pa_cons (pe_bltn (v := .ty "tuple") (by rfl) B.tuple (by decide +kernel) rfl) pa_nil))) (pe_one (pe_cmpR (op_eqL0 hr.units) (pe_lc (own := [("_law_one", 1)]) (g := gName 1) rfl scLAd.nd (pi_tup (pv 0)) (blkOk_by (own := [("_law_one", 1)]) (N := ["_law_value", "_law_one"]) (sc := defScope sLAd) (by decide +kernel)) (fun _ _ _ _ _ => pg_name (i := 1) scLAd.nd rfl (Or.inl rfl)) (fun _ _ _ _ _ => pts_one (pt_not (pt_val (pe_call GE hr (by rfl) T.gE T.FE.kp T.bE .nil pass0 (pa_cons (pv 1) pa_nil))))) (fun _ _ _ _ _ => (pv 1))) (pe_lst pa_nil) (nomark _)))))), ?_⟩
    refine ⟨v, rfl, v, .ty "tuple", _, _, isA "tuple" d, rfl, .ty _, hv.ty, kit_isA (by decide +kernel), isA "tuple" d, rfl, ?_⟩
    rw [isA_tuple]
    cases hv with
    | @tup a xs ds hs ha hz =>
      have hl := ha.length
      refine iteT ?_
      refine ⟨_, rfl, a, rfl, ⟨_, hs⟩, fun D0 nD => lcT ((ds.zip xs).map fun p => if (dBelow 3 p.1 || dPair p.1) = true then none else some p.2) (by rw [List.length_map, List.length_zip, hl]; omega) (by omega) hs nD ?_ ?_⟩
      · intro i x H2 Q2 Z2 hx sm hQ hZ
        obtain ⟨d, hd, rd⟩ := ha.get hx
        have hi := zip_at (fun d => dBelow 3 d || dPair d) hd hx
        refine ⟨rfl, x, rfl, x, d, rfl, Rdd.ex (.same sm) d rd, fun H3 s3 => ⟨_, rfl, ?_⟩⟩
        cases e : dBelow 3 d || dPair d with
        | true =>
          rw [e, if_pos rfl] at hi
          exact iteF (hZ _ hi s3)
        | false =>
          rw [e, if_neg Bool.false_ne_true] at hi
          exact iteT ⟨x, rfl, hQ x _ hi s3⟩
      · intro H2 sm hl3
        refine ⟨Nat.zero_le _, fun D1 nD1 => ?_⟩
        have s1 := Same.new (o := .lst []) nD1
        refine ⟨D0, D1, _, rfl, rfl, SqL.of (s1 _ _ hl3), SqL.of upd_same, ?_⟩
        rw [fm_none (fun d => dBelow 3 d || dPair d) ds xs hl]
        exact q _ (sm.trans s1)
    | _ => exact iteF (q _ (Same.refl _))
def teLen (K : PySem.W.Frag) : TE := tIf (tB (tCB (rIsi K) (tCons (tVar 1) (tCons (tC (.ty "tuple")) tNil)))) (tOp (rI CMul fun i j => .int (i * j)) (tCB (fun xs H Q => ∃ p ys, xs = [.ref p] ∧ (SqL K H p ys ∨ SqT K H p ys) ∧ Q (.int ys.length) H) (tCons (tOp (rIxT K) (tVar 1) (tC (.int 0))) tNil)) (tOp (rIxT K) (tVar 1) (tC (.int 1)))) (tC (.int 1))
theorem ok_llen (T : Lf K mg fLn fRo fWh fEl fIa fdLn fdRo fdWh fdEl fdIa) (B : Bj mg) : FnOk P w K mg base CX0 1 fLn fdLn ["_law_address_here"] (spLen K) := by
  refine T.FLn.ok scLLen (fun vs H Q E h => ?_) (fun cdv A outer s H vs Q E hr h => ?_)
  · obtain ⟨v, d, rfl, _⟩ := h
    rfl
  · obtain ⟨v, ds, rfl, hv, ok, q⟩ := h
    refine ⟨_, (pss_one (ps_ret (pe_callB (cr_sum rfl) (by rfl) B.sum (by decide +kernel) (pa_cons (pe_lc (own := [("_law_one", 1)]) (g := gName 1) (tt := tYes) (te := teLen K) rfl scLLen.nd (pi_tup (pv 0)) (blkOk_by (own := [("_law_one", 1)]) (N := ["_law_address_here", "_law_one"]) (sc := defScope sLLen) (by decide +kernel)) (fun _ _ _ _ _ => pg_name (i := 1) scLLen.nd rfl (Or.inl rfl)) (fun _ _ _ _ _ => pts_nil) (fun _ _ _ _ _ => by exact (pe_ifExp (pt_val (pe_callB call_isi (by rfl) B.isi (by decide +kernel) (pa_cons (pv 1) (pa_cons (pe_bltn (v := .ty "tuple") (by rfl) B.tuple (by decide +kernel) rfl) pa_nil)))) (pe_op op_mul (pe_callB call_len_seq (by rfl) B.len PySem.boot_len (pa_cons (pe_ix ix_tup (pv 1) pe_int (fun _ _ => rfl)) pa_nil)) (pe_ix ix_tup (pv 1) pe_int (fun _ _ => rfl))) pe_int))) pa_nil)))), ?_⟩
    cases hv with
    | @tup a xs _ hs ha hz =>
      have hl := ha.length
      refine ⟨_, rfl, a, rfl, ⟨_, hs⟩, fun D0 nD => lcT (ds.map fun d => some (V.int (steps d))) (by rw [List.length_map, hl]) (by omega) hs nD ?_ ?_⟩
      · intro i x H2 Q2 Z2 hx sm hQ _
        obtain ⟨d, hd, rd⟩ := ha.get hx
        have rd2 := Rdd.ex (.same sm) d rd
        have hi : (ds.map fun d => some (V.int (steps d)))[i]? = some (some (V.int (steps d))) := by
          rw [List.getElem?_map, hd]
          rfl
        refine ⟨rfl, ?_⟩
        refine iteT (B := Z2 H2) ⟨x, rfl, x, .ty "tuple", _, _, isA "tuple" d, rfl, .ty _, rd2.ty, kit_isA (by decide +kernel), isA "tuple" d, rfl, ?_⟩
        rw [isA_tuple]
        rcases ok d (List.mem_of_getElem? hd) with ⟨k, rfl, _⟩ | ⟨p, t, rfl, hp, hpl, _, h0, _⟩
        · exact iteF (hQ _ _ hi (Same.refl _))
        · cases rd2 with
          | @tup a2 xs2 _ hs2 ha2 hz2 =>
            obtain ⟨x2, y2, rfl, rx2, ry2⟩ := ha2.pair
            cases rx2 with
            | @tup b ys _ hs3 ha3 hz3 =>
              cases ry2
              have e3 := ha3.length
              refine iteT ⟨.ref a2, rfl, a2, _, 0, _, rfl, rfl, hs2, rfl, b, ys, rfl, .inr hs3, .ref a2, rfl, a2, _, 1, _, rfl, rfl, hs2, rfl, _, t, rfl, rfl, .inl ⟨by omega, by omega⟩, ?_⟩
              rw [e3]
              exact hQ _ _ hi (Same.refl _)
      · intro H2 sm hl2
        refine ⟨D0, ds.map steps, rfl, .inl (.inl ?_), q _ sm⟩
        rw [hl2, fm_len]
end
end Sl

set_option Elab.async false
set_option linter.all false
set_option maxRecDepth 100000
set_option maxHeartbeats 400000
namespace Sl
open PySem PySem.Spec PyProof.Rows L2
abbrev sLCut : Stmt := topS 35
theorem scLCut : FnScope ["_law_address_here", "_law_far", "_law_found", "_law_left", "_law_one", "_law_much", "_law_piece"] ["_law_address_here", "_law_far"] (defScope sLCut) := ⟨rfl, rfl, rfl, by decide +kernel, rfl, by decide +kernel, by decide +kernel⟩
section
variable {K : PySem.W.Frag} {G : Hp} {Q : VK} {a b : Addr} {xs ys : List V} {ds es : List D}
theorem RddAll.drop : ∀ {vs : List V} {ds : List D} (k : Nat), RddAll K G vs ds → RddAll K G (vs.drop k) (ds.drop k)
  | _, _, 0, h => h
  | _, _, k + 1, .nil => .nil
  | _, _, k + 1, .cons _ b => b.drop k
/-- t + u -/
theorem cat_gv (ha : SqT K G a xs) (hb : SqT K G b ys) (ra : RddAll K G xs ds) (rb : RddAll K G ys es) (hz : ds.length + es.length ≤ 100000) (q : ∀ v H', Same G H' → Rdd K H' v (.tup (ds ++ es)) → Q v H') : rCatA K (.ref a) (.ref b) G Q := by
  have l1 := ra.length
  have l2 := rb.length
  have hl : sizeLine = 16777216 := sizeLine_eq
  refine ⟨a, b, xs, ys, rfl, rfl, ha, hb, by omega, fun e => ?_, fun e e2 => ?_, fun e e2 p np => ?_⟩
  · subst e
    cases ra
    exact q _ _ (Same.refl _) (.tup hb rb (by rw [List.nil_append]; omega))
  · subst e2
    cases rb
    rw [List.append_nil] at q
    exact q _ _ (Same.refl _) (.tup ha ra (by omega))
  · have s := Same.new (o := .tup (xs ++ ys)) np
    exact q _ _ s (.tup (SqT.of upd_same) ((RddAll.ex (.same s) _ ra).append (RddAll.ex (.same s) _ rb)) (by rw [List.length_append]; exact hz))
/-- t[:k], t[k:] -/
theorem cutTo (xs : List V) (k : Nat) : cutV xs none (some (k : Int)) = xs.take k := by
  unfold cutV
  rw [HT.sIx_nat, HT.sIx_none, List.drop_zero, Nat.sub_zero]
  by_cases h : k ≤ xs.length
  · rw [Nat.min_eq_left h]
  · rw [Nat.min_eq_right (by omega), List.take_length, List.take_of_length_le (by omega)]
theorem cutFrom (xs : List V) (k : Nat) : cutV xs (some (k : Int)) none = xs.drop k := by
  unfold cutV
  rw [HT.sIx_nat, HT.sIx_none]
  by_cases h : k ≤ xs.length
  · rw [Nat.min_eq_left h, List.take_of_length_le (by rw [List.length_drop]; omega)]
  · rw [Nat.min_eq_right (by omega), List.drop_length, List.drop_eq_nil_of_le (by omega), List.take_nil]
theorem to_gv {k : Int} (hk : 0 ≤ k) (ha : SqT K G a xs) (ra : RddAll K G xs ds) (hz : ds.length ≤ 100000) (q : ∀ v H', Same G H' → Rdd K H' v (.tup (ds.take k.toNat)) → Q v H') : rSlA K (.ref a) none (some k) G Q := by
  have l1 := ra.length
  obtain ⟨n, rfl⟩ := Int.eq_ofNat_of_zero_le hk
  refine ⟨a, xs, rfl, ha, fun ⟨_, e⟩ => ?_, fun _ p np => ?_⟩
  · rw [HT.sIx_nat] at e
    have e1 : ds.take ((n : Int).toNat) = ds := List.take_of_length_le (by omega)
    rw [e1] at q
    exact q _ _ (Same.refl _) (.tup ha ra hz)
  · rw [cutTo]
    have s := Same.new (o := .tup (xs.take n)) np
    exact q _ _ s (.tup (SqT.of upd_same) ((RddAll.ex (.same s) _ ra).take n) (by rw [List.length_take]; omega))
theorem from_gv {k : Int} (hk : 0 ≤ k) (ha : SqT K G a xs) (ra : RddAll K G xs ds) (hz : ds.length ≤ 100000) (q : ∀ v H', Same G H' → Rdd K H' v (.tup (ds.drop k.toNat)) → Q v H') : rSlA K (.ref a) (some k) none G Q := by
  have l1 := ra.length
  obtain ⟨n, rfl⟩ := Int.eq_ofNat_of_zero_le hk
  refine ⟨a, xs, rfl, ha, fun ⟨e, _⟩ => ?_, fun _ p np => ?_⟩
  · rw [HT.sIx_nat] at e
    have e1 : ds.drop ((n : Int).toNat) = ds := by
      by_cases h0 : n = 0
      · subst h0
        rfl
      · have : ds = [] := List.eq_nil_of_length_eq_zero (by omega)
        subst this
        simp
    rw [e1] at q
    exact q _ _ (Same.refl _) (.tup ha ra hz)
  · rw [cutFrom]
    have s := Same.new (o := .tup (xs.drop n)) np
    exact q _ _ s (.tup (SqT.of upd_same) ((RddAll.ex (.same s) _ ra).drop n) (by rw [List.length_drop]; omega))
end
section
variable {P : Program} {w : World} {K : PySem.W.Frag} {mg : Str → Option Value} {base : Heap}
variable {fLn fRo fWh fEl fIa : Addr} {fdLn fdRo fdWh fdEl fdIa : FuncData}
theorem Rdd.tupd {H : Hp} {v : V} {ds : List D} (h : Rdd K H v (.tup ds)) : ∃ a xs, v = .ref a ∧ SqT K H a xs ∧ RddAll K H xs ds ∧ ds.length ≤ 100000 := by
  cases h with
  | tup h1 h2 h3 => exact ⟨_, _, rfl, h1, h2, h3⟩
theorem ok_lcut {f : Addr} {fd : FuncData} (F : Fun K "_law_cut" "_law_cut" sLCut f fd) (T : Lf K mg fLn fRo fWh fEl fIa fdLn fdRo fdWh fdEl fdIa) (B : Bj mg) : FnOk P w K mg base CX0 2 f fd ["_law_address_here", "_law_far"] (spCut K) := by
  have GLn : FnOk P w K mg base CX0 1 fLn fdLn ["_law_address_here"] (spLen K) := ok_llen T B
  refine F.ok scLCut (fun vs H Q E h => ?_) (fun cdv A outer s H vs Q E hr h => ?_)
  · obtain ⟨v, d, n, rfl, _⟩ := h
    rfl
  · obtain ⟨v, ds, n, rfl, hv, ok, small, n0, n1, q⟩ := h
    refine ⟨_, (pss_cons (ps_par (i := 2) (j := 3) (by rfl) scLCut.nd rfl rfl (by decide) rfl rfl (pa_cons (pe_tup pa_nil) (pa_cons (pv 1) pa_nil)) (by rfl))
      (pss_cons (ps_for PassesOwn.never rfl (pi_tup (pv 0)) (pg_name (i := 4) scLCut.nd rfl (Or.inl rfl))
        (pss_cons (ps_set (i := 5) scLCut.nd rfl (Or.inl rfl) (pe_call GLn hr (by rfl) T.gLn T.FLn.kp T.bLn .nil pass0 (pa_cons (pe_tup (pa_cons (pv 4) pa_nil)) pa_nil)))
      (C8.pss_cut (ps_if (PW.pt (pw_and (pt_cmpR op_gt (pv 3) pe_int (nomark _)) (pw_and1 (pt_cmpR op_le (pv 5) (pv 3) (nomark _)))))
        (pss_one (ps_set (i := 2) scLCut.nd rfl (Or.inl rfl) (pe_op op_catA (pv 2) (pe_tup (pa_cons (pv 4) pa_nil)))))
        (pss_one (ps_if (pt_cmpR op_gt (pv 3) pe_int (nomark _))
        (pss_cons (ps_set (i := 6) scLCut.nd rfl (Or.inl rfl) (pe_ix ix_tup (pv 4) pe_int (fun _ _ => rfl)))
      (C8.pss_cut (ps_set (i := 2) scLCut.nd rfl (Or.inl rfl) (pe_op op_catA (pv 2) (pe_ifExp (pt_cmpR op_ge (pv 3) (pe_callB call_len_seq (by rfl) B.len PySem.boot_len (pa_cons (pv 6) pa_nil)) (nomark _)) (pe_tup (pa_cons (pe_tup (pa_cons (pv 6) (pa_cons (pe_op op_fdivW (pv 3) (pe_callB call_len_seq (by rfl) B.len PySem.boot_len (pa_cons (pv 6) pa_nil))) pa_nil))) pa_nil)) (pe_tup pa_nil))))
      (pss_one (ps_set (i := 2) scLCut.nd rfl (Or.inl rfl) (pe_op op_catA (pv 2) (pe_slice sl_tupA (pv 6) po_none (po_some (pe_op op_sub (pv 3) (pe_op op_mul (pe_op op_fdivW (pv 3) (pe_callB call_len_seq (by rfl) B.len PySem.boot_len (pa_cons (pv 6) pa_nil))) (pe_callB call_len_seq (by rfl) B.len PySem.boot_len (pa_cons (pv 6) pa_nil)))))))))))
        pss_nil)))
      (pss_one (ps_set (i := 3) scLCut.nd rfl (Or.inl rfl) (pe_callB (call_max2 rfl) (by rfl) B.max (by decide +kernel) (pa_cons pe_int (pa_cons (pe_op op_sub (pv 3) (pv 5)) pa_nil))))))))
      (pss_one (ps_ret (pv 2))))), ?_⟩
    obtain ⟨a, xs, rfl, hs, ha, hz⟩ := hv.tupd
    have hl := ha.length
    have cl := cut_len n ok
    refine ⟨Nat.zero_le _, fun t0 nt0 => ⟨.int n, rfl, _, _, rfl, ?_⟩⟩
    have st := Same.new (o := .tup []) nt0
    refine ⟨.ref a, rfl, a, rfl, ⟨_, st.tup' hs⟩, for_tup (K := K) (a := a) (xs := xs) (fun i σ' H' => ∃ fv ks left y z u, σ' = [some (.ref a), some (.int n), some fv, some (.int left), y, z, u] ∧ Same H H' ∧
          Rdd K H' fv (.tup ks) ∧ ks ++ cutOf (ds.drop i) left = cutOf ds n ∧ 0 ≤ left)
        ⟨.ref t0, [], n, none, none, none, rfl, st, .tup (SqT.of upd_same) .nil (Nat.zero_le _), rfl, n0⟩ (fun i σ' H' _ ⟨fv, ks, left, y, z, u, _, sm, _⟩ => sm.tup' hs) ?_ ?_⟩
    · rintro i x σ' H' hx ⟨fv, ks, left, y, z, u, rfl, sm, hf, hc, l0⟩
      obtain ⟨d, hd, rd⟩ := ha.get hx
      have okd := ok d (List.mem_of_getElem? hd)
      have rd2 := Rdd.ex (.same sm) d rd
      have hdrop : ds.drop i = d :: ds.drop (i + 1) := by
        have hi := (List.getElem?_eq_some_iff.mp hd).1
        have e1 := (List.getElem?_eq_some_iff.mp hd).2
        rw [List.drop_eq_getElem_cons hi, e1]
      rw [hdrop] at hc
      have z2 : ks.length ≤ (cutOf ds n).length := by rw [← hc, List.length_append]; omega
      have unf : cutOf (d :: ds.drop (i + 1)) left = if left = 0 then [] else if steps d ≤ left then d :: cutOf (ds.drop (i + 1)) (left - steps d) else front d left := rfl
      refine ⟨x, rfl, (by show 1 ≤ sizeLine; decide), fun t1 nt1 => ?_⟩
      have s1 := Same.new (o := .tup [x]) nt1
      have oks : OkA [d] := fun y hy => by
        rw [List.mem_singleton] at hy
        rw [hy]
        exact okd
      refine ⟨.ref t1, [d], rfl, .tup (SqT.of upd_same) (.cons (Rdd.ex (.same s1) _ rd2) .nil) (by show 1 ≤ 100000; decide), oks, fun H2 s2 => ?_⟩
      have sd : lenOf [d] = steps d := by
        rw [lenOf_cons]
        exact Int.add_zero _
      rw [sd]
      have sH := sm.trans (s1.trans s2)
      have hf2 := Rdd.ex (.same (s1.trans s2)) _ hf
      have rd3 := Rdd.ex (.same (s1.trans s2)) _ rd2
      obtain ⟨fa, fxs, rfl, fs, fr, fz⟩ := hf2.tupd
      -- behind the ways: what is found, and what is left is the old one still
      refine ⟨fun σ3 H3 => ∃ fv ks2 u2, σ3 = [some (.ref a), some (.int n), some fv, some (.int left), some x, some (.int (steps d)), u2] ∧ Same H H3 ∧ Rdd K H3 fv (.tup ks2) ∧
        ks2 ++ cutOf (ds.drop (i + 1)) (if left - steps d > 0 then left - steps d else 0) = cutOf ds n, ?_, ?_⟩
      rotate_left
      · rintro σ3 H3 ⟨fv, ks2, u2, rfl, s3, hf3, hc3⟩
        refine ⟨.int left, rfl, .int (steps d), rfl, _, _, rfl, rfl, 0, _, rfl, fv, ks2, _, some x, some (.int (steps d)), u2, rfl, s3, hf3, hc3, ?_⟩
        split <;> omega
      refine ⟨.int left, rfl, _, _, rfl, rfl, _, rfl, ite2 (fun e => ?_) (fun e => ?_)⟩
      · have l1 : 0 < left := of_decide_eq_true e
        refine ⟨.int (steps d), rfl, .int left, rfl, _, _, rfl, rfl, _, rfl, ite2 (fun e1 => ?_) (fun e1 => ?_)⟩
        · -- the whole element
          have h1 : steps d ≤ left := of_decide_eq_true e1
          refine ⟨.ref fa, rfl, x, rfl, (by show 1 ≤ sizeLine; decide), fun t2 nt2 => ?_⟩
          have s4 := Same.new (o := .tup [x]) nt2
          refine cat_gv (es := [d]) (s4.tup' fs) (SqT.of upd_same) (RddAll.ex (.same s4) _ fr) (.cons (Rdd.ex (.same s4) _ rd3) .nil) (by show ks.length + 1 ≤ 100000; omega) fun v5 H5 s5 r5 => ?_
          refine ⟨v5, ks ++ [d], u, rfl, sH.trans (s4.trans s5), r5, ?_⟩
          have e9 : (if left - steps d > 0 then left - steps d else 0) = left - steps d := by split <;> omega
          rw [e9, ← hc, unf, if_neg (show ¬ left = 0 by omega), if_pos h1, List.append_assoc]
          rfl
        · -- its beginning
          have h1 : ¬ steps d ≤ left := fun z => e1 (decide_eq_true z)
          have hfront : ks ++ front d left = cutOf ds n := by rw [← hc, unf, if_neg (show ¬ left = 0 by omega), if_neg h1]
          refine ⟨.int left, rfl, _, _, rfl, rfl, _, rfl, ?_⟩
          rw [show decide (left > 0) = true from decide_eq_true l1]
          refine iteT ?_
          rcases okd with ⟨k, rfl, _⟩ | ⟨p, t, rfl, hp, hpl, _⟩
          · exact absurd (show (1 : Int) ≤ left by omega) h1
          · obtain ⟨a2, xs2, rfl, hs2, ha2, hz2⟩ := rd3.tupd
            obtain ⟨x2, y2, rfl, rx2, ry2⟩ := ha2.pair
            obtain ⟨b, ys, rfl, hs3, ha3, hz3⟩ := rx2.tupd
            cases ry2
            have e3 := ha3.length
            have p0 : 0 < p.length := by
              cases p with
              | nil => exact absurd rfl hp
              | cons _ _ => exact Nat.succ_pos _
            have r0 : 0 ≤ left % (ys.length : Int) := Int.emod_nonneg _ (by omega)
            have r1 : left - left / (ys.length : Int) * (ys.length : Int) = left % (ys.length : Int) := by
              rw [Int.emod_def, Int.mul_comm]
            have small9 : (ys.length : Int).natAbs < 2 ^ 20 := by
              rw [Int.natAbs_natCast, e3]
              exact Nat.lt_of_le_of_lt hpl (by decide)
            refine ⟨.ref a2, rfl, a2, _, 0, _, rfl, rfl, hs2, rfl, ?_⟩
            refine ⟨fun σ3 H3 => ∃ fv, σ3 = [some (.ref a), some (.int n), some fv, some (.int left), some (.ref a2), some (.int (steps (.tup [.tup p, .int t]))), some (.ref b)] ∧ Same H2 H3 ∧
              Rdd K H3 fv (.tup (ks ++ if left / (p.length : Int) > 0 then [.tup [.tup p, .int (left / (p.length : Int))]] else [])), ?_, ?_⟩
            · refine ⟨.ref fa, rfl, .int left, rfl, .ref b, rfl, b, ys, rfl, .inr hs3, _, _, rfl, rfl, _, rfl, ite2 (fun e5 => ?_) (fun e5 => ?_)⟩
              · have h5 : (ys.length : Int) ≤ left := of_decide_eq_true e5
                have h6 : left / (p.length : Int) > 0 := by
                  rw [← e3]
                  exact Int.lt_of_lt_of_le (by decide : (0 : Int) < 1) (Int.le_ediv_of_mul_le (by omega) (by omega))
                refine ⟨.ref b, rfl, .int left, rfl, .ref b, rfl, b, ys, rfl, .inr hs3, _, _, rfl, rfl, wide_div (b := 20) (by omega) small9 (by decide) (by decide), (by show 2 ≤ sizeLine; decide), fun t4 nt4 => ⟨(by show 1 ≤ sizeLine; decide), fun t5 nt5 => ?_⟩⟩
                have s4 := Same.new (o := .tup [.ref b, .int (left / (ys.length : Int))]) nt4
                have s5 := Same.new (o := .tup [.ref t4]) nt5
                have s6 := s4.trans s5
                refine cat_gv (s6.tup' fs) (SqT.of upd_same) (RddAll.ex (.same s6) _ fr) (.cons (.tup (SqT.of (s5 _ _ upd_same)) (.cons (.tup (s6.tup' hs3) (RddAll.ex (.same s6) _ ha3) hz3) (.cons (.int _) .nil)) (by show 2 ≤ 100000; decide)) .nil) (by show ks.length + 1 ≤ 100000; omega) fun v7 H7 s7 r7 => ?_
                refine ⟨v7, rfl, s6.trans s7, ?_⟩
                rw [if_pos h6, ← e3]
                exact r7
              · have h5 : ¬ (ys.length : Int) ≤ left := fun z => e5 (decide_eq_true z)
                have h6 : ¬ left / (p.length : Int) > 0 := by
                  rw [← e3, Int.ediv_eq_zero_of_lt l0 (by omega)]
                  decide
                refine ⟨Nat.zero_le _, fun t5 nt5 => ?_⟩
                have s6 := Same.new (o := .tup []) nt5
                refine cat_gv (es := []) (s6.tup' fs) (SqT.of upd_same) (RddAll.ex (.same s6) _ fr) .nil (by rw [List.length_nil]; omega) fun v7 H7 s7 r7 => ?_
                refine ⟨v7, rfl, s6.trans s7, ?_⟩
                rw [if_neg h6]
                exact r7
            · rintro σ3 H3 ⟨fv, rfl, s3, hf3⟩
              obtain ⟨fa3, fxs3, rfl, fs3, fr3, fz3⟩ := hf3.tupd
              refine ⟨.ref fa3, rfl, .ref b, rfl, .int left, rfl, .int left, rfl, .ref b, rfl, b, ys, rfl, .inr (s3.tup' hs3), _, _, rfl, rfl, wide_div (b := 20) (by omega) small9 (by decide) (by decide), .ref b, rfl, b, ys, rfl, .inr (s3.tup' hs3), _, _, rfl, rfl, .inr ⟨by omega, by omega⟩, _, _, rfl, rfl, _, rfl, ?_⟩
              rw [r1]
              refine to_gv r0 (s3.tup' hs3) (RddAll.ex (.same s3) _ ha3) hz3 fun v8 H8 s8 r8 => ?_
              obtain ⟨ca, cxs, rfl, cs, cr, cz⟩ := r8.tupd
              refine cat_gv (s8.tup' fs3) cs (RddAll.ex (.same s8) _ fr3) cr ?_ fun v9 H9 s9 r9 => ?_
              · have z7 : (ks ++ front (.tup [.tup p, .int t]) left).length = (cutOf ds n).length := by rw [hfront]
                have z8 : (front (.tup [.tup p, .int t]) left) = (if left / (p.length : Int) > 0 then [.tup [.tup p, .int (left / (p.length : Int))]] else []) ++ p.take (left % (p.length : Int)).toNat := rfl
                rw [z8] at z7
                rw [e3]
                simp only [List.length_append] at z7 ⊢
                omega
              · refine ⟨v9, ks ++ front (.tup [.tup p, .int t]) left, some (.ref b), rfl, sH.trans (s3.trans (s8.trans s9)), ?_, ?_⟩
                · have z8 : (front (.tup [.tup p, .int t]) left) = (if left / (p.length : Int) > 0 then [.tup [.tup p, .int (left / (p.length : Int))]] else []) ++ p.take (left % (p.length : Int)).toNat := rfl
                  rw [z8, ← List.append_assoc]
                  rw [e3] at r9
                  exact r9
                · rw [if_neg (by omega), cut_zero, List.append_nil, hfront]
      · -- nothing is left to take
        have e0 : left = 0 := by
          have := of_decide_eq_false (Bool.not_eq_true _ ▸ e)
          omega
        subst e0
        refine ⟨.int 0, rfl, _, _, rfl, rfl, _, rfl, iteF ?_⟩
        refine ⟨.ref fa, ks, u, rfl, sH, .tup fs fr fz, ?_⟩
        have z9 := okd.pos
        rw [if_neg (by omega), cut_zero, ← hc, cut_zero]
    · rintro σ' H' ⟨fv, ks, left, y, z, u, rfl, sm, hf, hc, l0⟩
      rw [hl, List.drop_length] at hc
      have hc2 : ks = cutOf ds n := by
        rw [← hc]
        exact (List.append_nil _).symm
      subst hc2
      obtain ⟨fa, fxs, rfl, fs, fr, fz⟩ := hf.tupd
      exact ⟨.ref fa, rfl, q fa _ sm (.tup fs fr fz)⟩
end
end Sl

set_option Elab.async false
set_option linter.all false
set_option maxRecDepth 100000
set_option maxHeartbeats 400000
namespace Sl
open PySem PySem.Spec PyProof.Rows L2
/-! ### displays: what they give, piece by piece -/
section
variable {K : PySem.W.Frag} {σ : L2.St} {G : Hp}
/-- the expression gives a value of this kind and changes nothing that stood -/
def Gv (K : PySem.W.Frag) (σ : L2.St) (G : Hp) (te : TE) (d : D) : Prop := ∀ (H : Hp) (Q : VK), Same G H → (∀ v H', Same H H' → Rdd K H' v d → Q v H') → te σ H Q
def Gva (K : PySem.W.Frag) (σ : L2.St) (G : Hp) (ta : TA) (ds : List D) : Prop := ∀ (H : Hp) (Q : List V → Hp → Prop), Same G H → (∀ vs H', Same H H' → RddAll K H' vs ds → Q vs H') → ta σ H Q
theorem gv_int (i : Int) : Gv K σ G (tC (.int i)) (.int i) := fun H Q _ q => q _ H (Same.refl _) (.int i)
theorem gv_bl (b : Bool) : Gv K σ G (tC (.bl b)) (.bl b) := fun H Q _ q => q _ H (Same.refl _) (.bl b)
theorem gv_non : Gv K σ G (tC .non) .non := fun H Q _ q => q _ H (Same.refl _) .non
theorem gv_str (x : Str) : Gv K σ G (tC (.str x)) (.str x) := fun H Q _ q => q _ H (Same.refl _) (.str x)
theorem gv_var {i : Nat} {v : V} {d : D} (h : σ[i]? = some (some v)) (r : Rdd K G v d) : Gv K σ G (tVar i) d := fun H Q s q => ⟨v, h, q _ H (Same.refl _) (Rdd.ex (.same s) d r)⟩
theorem gva_nil : Gva K σ G tNil [] := fun H Q _ q => q _ H (Same.refl _) .nil
theorem gva_cons {te : TE} {ta : TA} {d : D} {ds : List D} (h1 : Gv K σ G te d) (h2 : Gva K σ G ta ds) : Gva K σ G (tCons te ta) (d :: ds) := fun H Q s q =>
  h1 H _ s fun v H1 s1 r1 => h2 H1 _ (s.trans s1) fun vs H2 s2 r2 => q _ _ (s1.trans s2) (.cons (Rdd.ex (.same s2) d r1) r2)
theorem gv_tup {ta : TA} {ds : List D} (h : Gva K σ G ta ds) (hz : ds.length ≤ 100000 := by first | decide | (simp only [List.length_cons, List.length_nil]; omega)) : Gv K σ G (tTup ta) (.tup ds) := fun H Q s q =>
  h H _ s fun vs H1 s1 r1 => by
    have hl := r1.length
    have h2 : sizeLine = 16777216 := sizeLine_eq
    refine ⟨by omega, fun p np => ?_⟩
    have s2 := Same.new (o := .tup vs) np
    exact q _ _ (s1.trans s2) (.tup (SqT.of upd_same) (RddAll.ex (.same s2) _ r1) hz)
theorem gv_lst {ta : TA} {ds : List D} (h : Gva K σ G ta ds) (hz : ds.length ≤ 100000 := by first | decide | (simp only [List.length_cons, List.length_nil]; omega)) : Gv K σ G (tLst ta) .lst := fun H Q s q =>
  h H _ s fun vs H1 s1 r1 => by
    have hl := r1.length
    have h2 : sizeLine = 16777216 := sizeLine_eq
    refine ⟨by omega, fun p np => ?_⟩
    exact q _ _ (s1.trans (Same.new np)) (.lst (.base (.lst upd_same)))
/-- a list display, its items known -/
theorem lst_gv {ta : TA} {ds : List D} {H : Hp} {Q : VK} (h : Gva K σ G ta ds) (s : Same G H) (hz : ds.length ≤ 100000) (q : ∀ p vs H', H p = none → Same H H' → H' p = some (.lst vs) → RddAll K H' vs ds → Q (.ref p) H') : tLst ta σ H Q :=
  h H _ s fun vs H1 s1 r1 => by
    have hl := r1.length
    have h2 : sizeLine = 16777216 := sizeLine_eq
    refine ⟨by omega, fun p np => ?_⟩
    have s2 := Same.new (o := .lst vs) np
    exact q p vs _ (s1.free np) (s1.trans s2) upd_same (RddAll.ex (.same s2) _ r1)
theorem lst_gvE {ta : TA} {H : Hp} {Q : VK} (h : ∃ ds, Gva K σ G ta ds ∧ 1 ≤ ds.length ∧ ds.length ≤ 1000) (s : Same G H) (q : ∀ ds p vs H', 1 ≤ ds.length ∧ ds.length ≤ 1000 → H p = none → Same H H' → H' p = some (.lst vs) → RddAll K H' vs ds → Q (.ref p) H') : tLst ta σ H Q := by
  obtain ⟨ds, h1, h2⟩ := h
  exact lst_gv h1 s (by omega) (q ds · · · h2)
theorem gv_dict {te : TE} (h : ∀ H Q, (∀ p, H p = none → Q (.ref p) (upd H p (.dK []))) → te σ H Q) : Gv K σ G te .dct := fun H Q s q =>
  h H Q fun p np => q _ _ (Same.new np) (.dct (.base (.dK upd_same)))
theorem gv_opI {C : Int → Int → Prop} {g : Int → Int → Int} {ta tb : TE} {i j : Int} (h1 : Gv K σ G ta (.int i)) (h2 : Gv K σ G tb (.int j)) (hc : C i j) : Gv K σ G (tOp (rI C fun i j => .int (g i j)) ta tb) (.int (g i j)) := fun H Q s q =>
  h1 H _ s fun v H1 s1 r1 => h2 H1 _ (s.trans s1) fun u H2 s2 r2 => by
    cases r1
    cases r2
    exact ⟨i, j, rfl, rfl, hc, q _ _ (s1.trans s2) (.int _)⟩
theorem gv_opI0 {g : Int → Int → Int} {ta tb : TE} {i j : Int} (h1 : Gv K σ G ta (.int i)) (h2 : Gv K σ G tb (.int j)) : Gv K σ G (tOp (rI0 fun i j => .int (g i j)) ta tb) (.int (g i j)) := fun H Q s q =>
  h1 H _ s fun v H1 s1 r1 => h2 H1 _ (s.trans s1) fun u H2 s2 r2 => by
    cases r1
    cases r2
    exact ⟨i, j, rfl, rfl, q _ _ (s1.trans s2) (.int _)⟩
end
abbrev sOdd : Stmt := topS 33
theorem scOdd : FnScope ["_law_stream_here", "_law_some"] ["_law_stream_here"] (defScope sOdd) := ⟨rfl, rfl, rfl, by decide +kernel, rfl, by decide +kernel, by decide +kernel⟩
section
variable {P : Program} {w : World} {K : PySem.W.Frag} {mg : Str → Option Value} {base : Heap}
variable {fLn fRo fWh fEl fIa : Addr} {fdLn fdRo fdWh fdEl fdIa : FuncData}
theorem ok_lrows (T : Lf K mg fLn fRo fWh fEl fIa fdLn fdRo fdWh fdEl fdIa) (B : Bj mg) : FnOk P w K mg base CX0 1 fRo fdRo ["_law_address_here"]
    (fun vs H Q _ => ∃ v ds, vs = [v] ∧ Rdd K H v (.tup ds) ∧ OkA ds ∧ lenOf ds ≤ 1000 ∧ ∀ p H', Same H H' → Rdd K H' (.ref p) (.tup (plainOf ds)) → Q (.ref p) H') := by
  refine T.FRo.ok scLRows (fun vs H Q E h => ?_) (fun cdv A outer s H vs Q E hr h => ?_)
  · obtain ⟨v, d, rfl, _⟩ := h
    rfl
  · obtain ⟨v, ds, rfl, hv, ok, hle, qQ⟩ := h
    refine ⟨_, (pss_cons (ps_set (i := 1) scLRows.nd rfl (Or.inl rfl) (pe_lst pa_nil))
      (pss_cons (ps_for PassesOwn.never rfl (pi_tup (pv 0)) (pg_name (i := 2) scLRows.nd rfl (Or.inl rfl))
        (pss_one (ps_expr (pe_bm PySem.F.plainAttrs_list PySem.F.slot_list_extend PySem.F.type_list_extend mt_extend (pv 1) (pa_cons (pe_ifExp (pt_val (pe_callB call_isi (by rfl) B.isi (by decide +kernel) (pa_cons (pv 2) (pa_cons (pe_bltn (v := .ty "tuple") (by rfl) B.tuple (by decide +kernel) rfl) pa_nil)))) (pe_op op_rep (pe_callTy call_list_of (by rfl) B.list (by decide +kernel) (pa_cons (pe_ix ix_tup (pv 2) pe_int (fun _ _ => rfl)) pa_nil)) (pe_ix ix_tup (pv 2) pe_int (fun _ _ => rfl))) (pe_lst (pa_cons (pv 2) pa_nil))) pa_nil)))))
      (pss_one (ps_ret (pe_callTy call_tuple_of (by rfl) B.tuple (by decide +kernel) (pa_cons (pv 1) pa_nil)))))), ?_⟩
    obtain ⟨a, xs, rfl, hs, ha, hz⟩ := hv.tupd
    have hl := ha.length
    refine ⟨Nat.zero_le _, fun l nl => ?_⟩
    have sl := Same.new (o := .lst []) nl
    refine ⟨.ref a, rfl, a, rfl, ⟨_, sl.tup' hs⟩, for_tup (K := K) (a := a) (xs := xs) (fun i σ' H' => ∃ zs y, σ' = [some (.ref a), some (.ref l), y] ∧ Same H H' ∧ H' l = some (.lst zs) ∧ RddAll K H' zs (plainOf (ds.take i)))
      ⟨[], none, rfl, sl, upd_same, .nil⟩ (fun i σ' H' _ ⟨zs, y, _, sm, _⟩ => sm.tup' hs) ?_ ?_⟩
    · rintro i x σ' H' hx ⟨zs, y, rfl, sm, hl2, hr2⟩
      obtain ⟨d, hd, rd⟩ := ha.get hx
      have okd := ok d (List.mem_of_getElem? hd)
      have rd2 := Rdd.ex (.same sm) d rd
      have z1 := hr2.length
      have z2 := plain_len (ds := ds.take (i + 1)) fun q hq => ok q (List.mem_of_mem_take hq)
      have z3 := len_take ok (i + 1)
      have z4 : (plainOf (ds.take (i + 1))).length = zs.length + (elems d).length := by rw [plain_take hd, List.length_append, z1]
      have hline : sizeLine = 16777216 := sizeLine_eq
      have fin : ∀ (b : Addr) (H3 : Hp) (ws : List V), Same H' H3 → H3 b = some (.lst ws) → RddAll K H3 ws (elems d) →
          ∃ l0 b0 xs0 zs0, V.ref l = .ref l0 ∧ [V.ref b] = [.ref b0] ∧ H3 l0 = some (.lst xs0) ∧ H3 b0 = some (.lst zs0) ∧ xs0.length + zs0.length ≤ sizeLine ∧
            ∃ zs y, [some (V.ref a), some (V.ref l), some x] = [some (.ref a), some (.ref l), y] ∧ Same H (upd H3 l0 (.lst (xs0 ++ zs0))) ∧ (upd H3 l0 (.lst (xs0 ++ zs0))) l = some (.lst zs) ∧ RddAll K (upd H3 l0 (.lst (xs0 ++ zs0))) zs (plainOf (ds.take (i + 1))) := by
        intro b H3 ws sm3 hb hw
        have hl3 := sm3 _ _ hl2
        have z5 := hw.length
        refine ⟨l, b, zs, ws, rfl, rfl, hl3, hb, by omega, zs ++ ws, some x, rfl, fun c o q => ?_, upd_same, ?_⟩
        · have nc : c ≠ l := ne_of_none q nl
          rw [upd_ne nc]
          exact sm3 _ _ (sm _ _ q)
        · rw [plain_take hd]
          exact (RddAll.ex (sqT_put hl3) _ (RddAll.ex (.same sm3) _ hr2)).append (RddAll.ex (sqT_put hl3) _ hw)
      refine ⟨.ref l, rfl, .inl ⟨rfl, _, SqL.of hl2⟩, ?_⟩
      refine ⟨x, rfl, x, .ty "tuple", _, _, isA "tuple" d, rfl, .ty _, rd2.ty, kit_isA (by decide +kernel), isA "tuple" d, rfl, ?_⟩
      rw [isA_tuple]
      rcases okd with ⟨k, rfl, _⟩ | ⟨p, t, rfl, hp, hpl, hall, h0, h9⟩
      · refine iteF ⟨x, rfl, (by show 1 ≤ sizeLine; decide), fun u nu => ?_⟩
        have su := Same.new (o := .lst [x]) nu
        exact fin u _ [x] su upd_same (.cons (Rdd.ex (.same su) _ rd2) .nil)
      · obtain ⟨a2, xs2, rfl, hs2, ha2, hz2⟩ := rd2.tupd
        obtain ⟨x2, y2, rfl, rx2, ry2⟩ := ha2.pair
        obtain ⟨b, ys, rfl, hs3, ha3, hz3⟩ := rx2.tupd
        cases ry2
        have e3 := ha3.length
        have p0 : 0 < p.length := by
          cases p with
          | nil => exact absurd rfl hp
          | cons _ _ => exact Nat.succ_pos _
        have el : ((elems (.tup [.tup p, .int t])).length : Int) = p.length * t := elems_len (.inr ⟨p, t, rfl, hp, hpl, hall, h0, h9⟩)
        have tle : t ≤ 1000 := by
          have h5 : 1 * t ≤ p.length * t := Int.mul_le_mul_of_nonneg_right (by omega) h0
          omega
        have tz : ys.length * t.toNat ≤ sizeLine := by
          have h6 : ys.length * t.toNat ≤ 1000 * 1000 := Nat.mul_le_mul (by omega) (by omega)
          omega
        refine iteT ⟨.ref a2, rfl, a2, _, 0, _, rfl, rfl, hs2, rfl, b, ys, rfl, .inr hs3, fun c nc => ?_⟩
        have sc := Same.new (o := .lst ys) nc
        refine ⟨.ref a2, rfl, a2, _, 1, _, rfl, rfl, sc.tup' hs2, rfl, c, t, ys, rfl, rfl, upd_same, by omega, by omega, tz, fun u nu => ?_⟩
        have su := Same.new (o := .lst (List.replicate t.toNat ys).flatten) nu
        exact fin u _ _ (sc.trans su) upd_same ((RddAll.ex (.same (sc.trans su)) _ ha3).rep t.toNat)
    · rintro σ' H' ⟨zs, y, rfl, sm, hl2, hr2⟩
      rw [hl, List.take_length] at hr2
      have z1 := hr2.length
      have z2 := plain_len ok
      refine ⟨.ref l, rfl, l, zs, rfl, .inl ⟨SqL.of hl2, fun u nu => ?_⟩⟩
      have su := Same.new (o := .tup zs) nu
      exact qQ u _ (sm.trans su) (.tup (SqT.of upd_same) (RddAll.ex (.same su) _ hr2) (by omega))
/-- some value of any kind, made of these; the stream may have moved -/
def spOdd (K : PySem.W.Frag) : Sp := fun vs H Q _ => ∃ a : Addr, vs = [.ref a] ∧ Stm a H ∧ ∀ v d H', Off a H H' → Stm a H' → Rdd K H' v d → Q v H'
theorem ok_odd {f fD fP : Addr} {fd fdD fdP : FuncData} (F : Fun K "_law_odd_element" "_law_odd_element" sOdd f fd) (FD : Fun K "_law_draw" "_law_draw" sDraw fD fdD) (bD : Binds K fdD ["_law_stream_here", "_law_high"] []) (gD : mg "_law_draw" = some (.ref fD))
    (FP : Fun K "_law_pick" "_law_pick" sPick fP fdP) (bP : Binds K fdP ["_law_stream_here", "_law_items"] []) (gP : mg "_law_pick" = some (.ref fP)) (B : Bj mg) : FnOk P w K mg base CX0 3 f fd ["_law_stream_here"] (spOdd K) := by
  have GP : FnOk P w K mg base CX0 2 fP fdP ["_law_stream_here", "_law_items"] (spPick K) := ok_pick FP FD bD gD B
  refine F.ok scOdd (fun vs H Q E h => ?_) (fun cdv A outer s H vs Q E hr h => ?_)
  · obtain ⟨a, rfl, _⟩ := h
    rfl
  · obtain ⟨a, rfl, hs, q⟩ := h
    refine ⟨_, (pss_cons (ps_set (i := 1) scOdd.nd rfl (Or.inl rfl) (pe_lst (pa_cons pe_int (pa_cons pe_int (pa_cons pe_int (pa_cons (pe_un un_neg pe_int) (pa_cons pe_bl (pa_cons pe_non (pa_cons pe_str (pa_cons (pe_tup pa_nil) (pa_cons (pe_lst (pa_cons pe_int pa_nil)) (pa_cons pe_dnewK (pa_cons (pe_tup (pa_cons (pe_tup pa_nil) (pa_cons pe_int pa_nil))) (pa_cons (pe_tup (pa_cons (pe_tup (pa_cons pe_int pa_nil)) (pa_cons (pe_un un_neg pe_int) pa_nil))) (pa_cons (pe_tup (pa_cons (pe_tup (pa_cons pe_int pa_nil)) (pa_cons (pe_op op_add (pe_op op_powW pe_int pe_int) pe_int) pa_nil))) (pa_cons (pe_tup (pa_cons (pe_tup (pa_cons pe_int pa_nil)) (pa_cons pe_bl pa_nil))) (pa_cons (pe_tup (pa_cons (pe_tup (pa_cons pe_int pa_nil)) pa_nil)) pa_nil)))))))))))))))))
      (pss_cons (ps_set (i := 1) scOdd.nd rfl (Or.inl rfl) (pe_op op_cat (pv 1) (pe_lst (pa_cons (pe_tup (pa_cons (pe_lst (pa_cons pe_int pa_nil)) (pa_cons pe_int pa_nil))) (pa_cons (pe_tup (pa_cons (pe_tup (pa_cons pe_int (pa_cons pe_int pa_nil))) (pa_cons pe_int pa_nil))) (pa_cons (pe_tup (pa_cons (pe_tup (pa_cons pe_int pa_nil)) (pa_cons pe_int (pa_cons pe_int pa_nil)))) (pa_cons (pe_tup (pa_cons pe_int (pa_cons pe_int pa_nil))) (pa_cons (pe_tup (pa_cons (pe_tup (pa_cons pe_int (pa_cons pe_bl pa_nil))) (pa_cons pe_int pa_nil))) (pa_cons (pe_tup (pa_cons (pe_tup (pa_cons pe_int pa_nil)) (pa_cons pe_non pa_nil))) (pa_cons (pe_tup (pa_cons (pe_tup (pa_cons pe_int pa_nil)) (pa_cons (pe_op op_powW pe_int pe_int) pa_nil))) (pa_cons (pe_tup (pa_cons pe_int (pa_cons pe_int pa_nil))) pa_nil)))))))))))
      (pss_one (ps_ret (pe_call GP hr (by rfl) gP FP.kp bP .nil pass0 (pa_cons (pv 0) (pa_cons (pe_op op_cat (pv 1) (pe_lst (pa_cons (pe_tup (pa_cons (pe_tup (pa_cons pe_int (pa_cons (pe_lst (pa_cons pe_int pa_nil)) pa_nil))) (pa_cons pe_int pa_nil))) (pa_cons (pe_tup (pa_cons (pe_tup (pa_cons (pe_tup (pa_cons pe_int pa_nil)) (pa_cons pe_int pa_nil))) (pa_cons pe_int pa_nil))) (pa_cons (pe_tup (pa_cons (pe_tup (pa_cons pe_int pa_nil)) (pa_cons pe_str pa_nil))) (pa_cons (pe_tup (pa_cons (pe_tup (pa_cons pe_int (pa_cons pe_int pa_nil))) (pa_cons pe_int pa_nil))) (pa_cons (pe_op op_powW pe_int pe_int) (pa_cons (pe_tup (pa_cons (pe_tup (pa_cons pe_int pa_nil)) (pa_cons (pe_tup (pa_cons pe_int pa_nil)) pa_nil))) pa_nil)))))))) pa_nil))))))), ?_⟩
    have ng : ∀ {σ : L2.St} {G : Hp} (i : Int), Gv K σ G (tUn (rU fun i => .int (-i)) (tC (.int i))) (.int (-i)) := fun i H Q s q => ⟨i, rfl, q _ _ (Same.refl _) (.int _)⟩
    have pw : ∀ {σ : L2.St} {G : Hp} (i j : Int) (h : 0 ≤ j ∧ (Builtin.Int.intBits i : Int) * j ≤ 2 ^ 27), Gv K σ G (tOp (rI (fun i j => 0 ≤ j ∧ (Builtin.Int.intBits i : Int) * j ≤ 2 ^ 27) fun i j => .int (i ^ j.toNat)) (tC (.int i)) (tC (.int j))) (.int (i ^ j.toNat)) := fun i j h => gv_opI (gv_int i) (gv_int j) h
    have dc : ∀ {σ : L2.St} {G : Hp}, Gv K σ G tDNewK .dct := gv_dict fun H Q h => h
    unfold tSeq tAsg
    dsimp only
    refine lst_gvE (K := K) (G := H) ?a1 (Same.refl _) fun d1 p1 vs1 H1 z1 n1 s1 l1 r1 => ?_
    case a1 => exact ⟨_, by (repeat' first | exact gva_nil | apply gva_cons | exact gv_int _ | exact gv_bl _ | exact gv_non | exact gv_str _ | exact dc | exact ng _ | apply pw | exact ⟨by decide, by decide +kernel⟩ | apply gv_opI0 | apply gv_tup | apply gv_lst); all_goals (show _ ≤ 100000; decide), by decide, by decide⟩
    refine ⟨.ref p1, rfl, ?_⟩
    refine lst_gvE (K := K) (G := H1) ?a2 (Same.refl _) fun d2 p2 vs2 H2 z2 n2 s2 l2 r2 => ?_
    case a2 => exact ⟨_, by (repeat' first | exact gva_nil | apply gva_cons | exact gv_int _ | exact gv_bl _ | exact gv_non | exact gv_str _ | exact dc | exact ng _ | apply pw | exact ⟨by decide, by decide +kernel⟩ | apply gv_opI0 | apply gv_tup | apply gv_lst); all_goals (show _ ≤ 100000; decide), by decide, by decide⟩
    have hline : sizeLine = 16777216 := sizeLine_eq
    have e1 := r1.length
    have e2 := r2.length
    refine ⟨p1, p2, vs1, vs2, rfl, rfl, s2 _ _ l1, l2, by omega, fun p3 n3 => ?_⟩
    have s3 := Same.new (o := .lst (vs1 ++ vs2)) n3
    have r3 := (RddAll.ex (.same (s2.trans s3)) _ r1).append (RddAll.ex (.same s3) _ r2)
    have l3 : (upd H2 p3 (.lst (vs1 ++ vs2))) p3 = some (.lst (vs1 ++ vs2)) := upd_same
    have sA : Same H (upd H2 p3 (.lst (vs1 ++ vs2))) := s1.trans (s2.trans s3)
    generalize (upd H2 p3 (.lst (vs1 ++ vs2))) = G3 at s3 r3 l3 sA ⊢
    refine ⟨.ref a, rfl, .ref p3, rfl, ?_⟩
    show tLst _ _ G3 _
    refine lst_gvE (K := K) (G := G3) ?a3 (Same.refl _) fun d4 p4 vs4 H4 z4 n4 s4 l4 r4 => ?_
    case a3 => exact ⟨_, by (repeat' first | exact gva_nil | apply gva_cons | exact gv_int _ | exact gv_bl _ | exact gv_non | exact gv_str _ | exact dc | exact ng _ | apply pw | exact ⟨by decide, by decide +kernel⟩ | apply gv_opI0 | apply gv_tup | apply gv_lst); all_goals (show _ ≤ 100000; decide), by decide, by decide⟩
    have e4 := r4.length
    refine ⟨p3, p4, vs1 ++ vs2, vs4, rfl, rfl, s4 _ _ l3, l4, by rw [List.length_append]; omega, fun p5 n5 => ?_⟩
    have s5 := Same.new (o := .lst (vs1 ++ vs2 ++ vs4)) n5
    have r5 := (RddAll.ex (.same (s4.trans s5)) _ r3).append (RddAll.ex (.same s5) _ r4)
    have l5 : (upd H4 p5 (.lst (vs1 ++ vs2 ++ vs4))) p5 = some (.lst (vs1 ++ vs2 ++ vs4)) := upd_same
    have sB := sA.trans (s4.trans s5)
    generalize (upd H4 p5 (.lst (vs1 ++ vs2 ++ vs4))) = G5 at s5 r5 l5 sB ⊢
    have hs5 := hs.same sB
    obtain ⟨la, ea⟩ := (hs.same (sA.trans s4)).lst
    refine ⟨a, p5, _, rfl, hs5, fun z => ?_, SqL.of l5, ?_, ?_, fun i x H' hx off st => ?_⟩
    · rw [z, ea] at n5
      cases n5
    · simp only [List.length_append]
      omega
    · simp only [List.length_append]
      omega
    · obtain ⟨d, _, rd⟩ := r5.get hx
      exact q x d H' ((Off.same sB).trans off) st (Rdd.ex (off.ex' hs5 st) d rd)
end
end Sl

set_option Elab.async false
set_option linter.all false
set_option maxRecDepth 100000
set_option maxHeartbeats 400000
namespace Sl
open PySem PySem.Spec PyProof.Rows L2
abbrev sLAddr : Stmt := topS 27
theorem scLAddr : FnScope ["_law_stream_here", "_law_much", "_law_far", "_law_found", "_law_turn", "_law_piece", "_law_spot"] ["_law_stream_here", "_law_much", "_law_far"] (defScope sLAddr) := ⟨rfl, rfl, rfl, by decide +kernel, rfl, by decide +kernel, by decide +kernel⟩
/-- the ints of the law's own draws and picks -/
structure Lp (K : PySem.W.Frag) (mg : Str → Option Value) (fD fP : Addr) (fdD fdP : FuncData) : Prop where
  FD : Fun K "_law_draw" "_law_draw" sDraw fD fdD
  bD : Binds K fdD ["_law_stream_here", "_law_high"] []
  gD : mg "_law_draw" = some (.ref fD)
  FP : Fun K "_law_pick" "_law_pick" sPick fP fdP
  bP : Binds K fdP ["_law_stream_here", "_law_items"] []
  gP : mg "_law_pick" = some (.ref fP)
/-- a comprehension's turn without a test -/
theorem yes {σ : L2.St} {H : Hp} {A B : Hp → Prop} (h : A H) : tYes σ H (fun b H3 => if b = true then A H3 else B H3) := by
  show (if true = true then A H else B H)
  rw [if_pos rfl]
  exact h
theorem ints_wts : ∀ ns : List Int, D.wts (ns.map D.int) = 131 * ns.length
  | [] => by simp [D.wts]
  | n :: ns => by
    simp only [List.map_cons, D.wts, D.wt, ints_wts ns, List.length_cons]
    omega
theorem lenOf_append : ∀ a b : List D, lenOf (a ++ b) = lenOf a + lenOf b
  | [], b => by
    show lenOf b = 0 + lenOf b
    omega
  | d :: a, b => by
    rw [List.cons_append, lenOf_cons, lenOf_cons, lenOf_append a b]
    omega
theorem okEl_int {i : Int} (h0 : 0 ≤ i) (h1 : i < 3) : okEl (.int i) := .inl ⟨i, rfl, h0, h1⟩
theorem okEl_pair {ns : List Int} {t : Int} (hn : ns ≠ []) (hl : ns.length ≤ 1000) (h : ∀ n ∈ ns, 0 ≤ n ∧ n < 3) (h0 : 0 ≤ t) (h1 : t < lim1) : okEl (.tup [.tup (ns.map D.int), .int t]) := by
  refine .inr ⟨ns.map D.int, t, rfl, by simpa using hn, by rw [List.length_map]; exact hl, fun x hx => ?_, h0, h1⟩
  obtain ⟨n, hm, rfl⟩ := List.mem_map.mp hx
  exact below_of (h n hm).1 (h n hm).2
theorem two_thousand {n : Int} (h0 : 0 ≤ n) (h : n ≤ 100000) : n.natAbs < 2 ^ 2000 := small_big (by omega)
section
variable {P : Program} {w : World} {K : PySem.W.Frag} {mg : Str → Option Value} {base : Heap}
variable {fD fP : Addr} {fdD fdP : FuncData}
theorem ints_rdd {H : Hp} : ∀ ns : List Int, RddAll K H (ns.map V.int) (ns.map D.int)
  | [] => .nil
  | n :: ns => .cons (.int n) (ints_rdd ns)
def spAddr (K : PySem.W.Frag) : Sp := fun vs H Q _ => ∃ (a : Addr) (much far : Int), vs = [.ref a, .int much, .int far] ∧ Stm a H ∧ 0 ≤ much ∧ much ≤ 1000 ∧ 0 ≤ far ∧ far < lim1 ∧
  ∀ p H' ds, Off a H H' → Stm a H' → Rdd K H' (.ref p) (.tup ds) → OkA ds → (ds.length : Int) ≤ much → D.wts ds ≤ 600 * ds.length → lenOf ds ≤ 3 * lim1 * ds.length → Q (.ref p) H'
theorem ok_laddr {f : Addr} {fd : FuncData} (F : Fun K "_law_address" "_law_address" sLAddr f fd) (T : Lp K mg fD fP fdD fdP) (B : Bj mg) : FnOk P w K mg base CX0 3 f fd ["_law_stream_here", "_law_much", "_law_far"] (spAddr K) := by
  have GD : FnOk P w K mg base CX0 1 fD fdD ["_law_stream_here", "_law_high"] spDraw := ok_draw T.FD B
  have GP : FnOk P w K mg base CX0 2 fP fdP ["_law_stream_here", "_law_items"] (spPick K) := ok_pick T.FP T.FD T.bD T.gD B
  refine F.ok scLAddr (fun vs H Q E h => ?_) (fun cdv A outer s H vs Q E hr h => ?_)
  · obtain ⟨a, m, f, rfl, _⟩ := h
    rfl
  · obtain ⟨a, much, far, rfl, hs, m0, m1, f0, f1, q⟩ := h
    have hr1 := hr.mono (by decide : 1 ≤ 2)
    refine ⟨_, (pss_cons (ps_set (i := 3) scLAddr.nd rfl (Or.inl rfl) (pe_lst pa_nil))
      (pss_cons (ps_for PassesOwn.never rfl (pi_range1 (by rfl) B.range (pa_cons (pe_call GD hr1 (by rfl) T.gD T.FD.kp T.bD .nil pass0 (pa_cons (pv 0) (pa_cons (pe_op op_add (pv 1) pe_int) pa_nil))) pa_nil)) (pg_name (i := 4) scLAddr.nd rfl (Or.inl rfl))
        (pss_one (ps_if (pt_cmpR op_eq (pe_call GD hr1 (by rfl) T.gD T.FD.kp T.bD .nil pass0 (pa_cons (pv 0) (pa_cons pe_int pa_nil))) pe_int (nomark _))
        (pss_one (ps_expr (pe_bm PySem.F.plainAttrs_list PySem.F.slot_list_append PySem.F.type_list_append mt_append (pv 3) (pa_cons (pe_call GD hr1 (by rfl) T.gD T.FD.kp T.bD .nil pass0 (pa_cons (pv 0) (pa_cons pe_int pa_nil))) pa_nil))))
        (pss_cons (ps_set (i := 5) scLAddr.nd rfl (Or.inl rfl) (pe_callTy call_tuple_of (by rfl) B.tuple (by decide +kernel) (pa_cons (pe_lc (own := [("_law_spot", 6)]) (g := gName 6) (tt := tYes) rfl scLAddr.nd (pi_range1 (by rfl) B.range (pa_cons (pe_op op_add pe_int (pe_call GD hr1 (by rfl) T.gD T.FD.kp T.bD .nil pass0 (pa_cons (pv 0) (pa_cons pe_int pa_nil)))) pa_nil)) (blkOk_by (own := [("_law_spot", 6)]) (N := ["_law_stream_here", "_law_much", "_law_far", "_law_found", "_law_turn", "_law_piece", "_law_spot"]) (sc := defScope sLAddr) (by decide +kernel)) (fun _ _ _ _ _ => pg_name (i := 6) scLAddr.nd rfl (Or.inl rfl)) (fun _ _ _ _ _ => pts_nil) (fun _ _ _ _ _ => (pe_call GD hr1 (by rfl) T.gD T.FD.kp T.bD .nil pass0 (pa_cons (pv 0) (pa_cons pe_int pa_nil))))) pa_nil)))
      (pss_one (ps_expr (pe_bm PySem.F.plainAttrs_list PySem.F.slot_list_append PySem.F.type_list_append mt_append (pv 3) (pa_cons (pe_tup (pa_cons (pv 5) (pa_cons (pe_call GP hr (by rfl) T.gP T.FP.kp T.bP .nil pass0 (pa_cons (pv 0) (pa_cons (pe_lst (pa_cons pe_int (pa_cons pe_int (pa_cons pe_int (pa_cons pe_int (pa_cons (pv 2) pa_nil)))))) pa_nil))) pa_nil))) pa_nil))))))))
      (pss_one (ps_ret (pe_callTy call_tuple_of (by rfl) B.tuple (by decide +kernel) (pa_cons (pv 3) pa_nil)))))), ?_⟩
    have hline : sizeLine = 16777216 := sizeLine_eq
    refine ⟨Nat.zero_le _, fun l nl => ?_⟩
    have sl := Same.new (o := .lst []) nl
    have nla : l ≠ a := fun z => by
      obtain ⟨_, e⟩ := hs.lst
      rw [← z, nl] at e
      cases e
    refine ⟨.ref a, rfl, .int much, rfl, _, _, rfl, rfl, a, much + 1, rfl, hs.same sl, by omega, two_thousand (by omega) (by omega), fun r H1 r0 r1 o1 s1 => ?_⟩
    refine ⟨r, rfl, by omega, by omega, for_range (n := r.toNat) (fun i σ' H' => ∃ zs ds y4 y5, σ' = [some (.ref a), some (.int much), some (.int far), some (.ref l), y4, y5, none] ∧ Off a H H' ∧ Stm a H' ∧ H' l = some (.lst zs) ∧ RddAll K H' zs ds ∧ OkA ds ∧ ds.length ≤ i ∧ D.wts ds ≤ 600 * ds.length ∧ lenOf ds ≤ 3 * lim1 * ds.length)
      ⟨[], [], none, none, rfl, (Off.same sl).trans o1, s1, o1 _ _ nla upd_same, .nil, fun d hd => absurd hd (by simp), Nat.le_refl _, by simp [D.wts], by decide⟩ ?_ ?_⟩
    · rintro i σ' H' hi ⟨zs, ds, y4, y5, rfl, off, st, hl, hr2, ok, hlen, hw, hlo⟩
      have z1 := hr2.length
      -- which kind of element
      refine ⟨.ref a, rfl, a, 2, rfl, st, by decide, by decide, fun r2 H2 r20 r21 o2 st2 => ?_⟩
      have ex2 := o2.ex' st st2
      have hl2 := o2 _ _ nla hl
      refine ⟨rfl, _, rfl, ite2 (fun e => ?_) (fun e => ?_)⟩
      · -- a number
        refine ⟨.ref l, rfl, .inl ⟨rfl, _, SqL.of hl2⟩, .ref a, rfl, a, 3, rfl, st2, by decide, by decide, fun r3 H3 r30 r31 o3 st3 => ?_⟩
        have ex3 := ex2.trans (o3.ex' st2 st3)
        have hl3 := o3 _ _ nla hl2
        refine ⟨l, zs, _, rfl, rfl, hl3, by omega, zs ++ [.int r3], ds ++ [.int r3], some (.int (0 + (i : Int))), y5, rfl, ?_, st3.off (Ne.symm nla) .put, upd_same, ?_, ?_, ?_, ?_, ?_⟩
        · intro b o nb e
          have nbl : b ≠ l := ne_of_none e nl
          rw [upd_ne nbl]
          exact o3 _ _ nb (o2 _ _ nb (off _ _ nb e))
        · exact (RddAll.ex (ex3.trans (sqT_put hl3)) _ hr2).append (.cons (.int _) .nil)
        · intro d hd
          rcases List.mem_append.mp hd with h | h
          · exact ok d h
          · rw [List.mem_singleton] at h
            subst h
            exact okEl_int r30 r31
        · rw [List.length_append]
          exact Nat.succ_le_succ hlen
        · rw [wts_append, List.length_append]
          simp only [D.wts, D.wt, List.length_cons, List.length_nil]
          omega
        · rw [lenOf_append, List.length_append, lenOf_cons]
          have e1 : steps (.int r3) = 1 := rfl
          have e2 : lenOf [] = 0 := rfl
          have e3 : lim1 = 1000000000000000000000000000001 := rfl
          rw [e1, e2, e3]
          rw [e3] at hlo
          simp only [List.length_cons, List.length_nil]
          omega
      · -- a piece and how often
        refine ⟨.ref a, rfl, a, 3, rfl, st2, by decide, by decide, fun r3 H3 r30 r31 o3 st3 => ⟨1, r3, rfl, rfl, 1 + r3, rfl, by omega, by omega, fun D0 nD => ?_⟩⟩
        have ex3 := ex2.trans (o3.ex' st2 st3)
        have hl3 := o3 _ _ nla hl2
        have nDa : D0 ≠ a := fun z => by
          obtain ⟨_, e⟩ := st3.lst
          rw [← z, nD] at e
          cases e
        refine lc_range (lo := 0) (n := (1 + r3).toNat) (fun j H' => ∃ ns : List Int, ns.length = j ∧ (∀ n ∈ ns, 0 ≤ n ∧ n < 3) ∧ H' D0 = some (.lst (ns.map V.int)) ∧ Off a H3 H' ∧ Stm a H')
          ⟨[], rfl, fun n hn => absurd hn (by simp), upd_same, Off.same (Same.new nD), st3.same (Same.new nD)⟩ ?_ ?_
        · rintro j H4 hj ⟨ns, hnl, hnb, hD, o4, st4⟩
          refine ⟨rfl, ?_⟩
          refine yes ⟨.ref a, rfl, a, 3, rfl, st4, by decide, by decide, fun r5 H5 r50 r51 o5 st5 => ?_⟩
          have hD5 := o5 _ _ nDa hD
          refine ⟨_, hD5, by rw [List.length_map]; omega, ns ++ [r5], by rw [List.length_append, hnl]; rfl, fun n hn => ?_, ?_, ?_, st5.off (Ne.symm nDa) .put⟩
          · rcases List.mem_append.mp hn with h | h
            · exact hnb n h
            · rw [List.mem_singleton] at h
              subst h
              exact ⟨r50, r51⟩
          · rw [upd_same, List.map_append]
            rfl
          · intro b o nb e
            rw [upd_ne (ne_of_none e nD)]
            exact o5 _ _ nb (o4 _ _ nb e)
        · rintro H4 ⟨ns, hnl, hnb, hD, o4, st4⟩
          refine ⟨D0, _, rfl, .inl ⟨SqL.of hD, fun c nc => ?_⟩⟩
          have sc := Same.new (o := .tup (ns.map V.int)) nc
          have st5 := st4.same sc
          have hl5 := sc _ _ (o4 _ _ nla hl3)
          have ex5 := ex3.trans ((o4.ex' st3 st4).trans (.same sc))
          have hc5 : (upd H4 c (.tup (ns.map V.int))) c = some (.tup (ns.map V.int)) := upd_same
          have o5 : Off a H3 (upd H4 c (.tup (ns.map V.int))) := o4.trans (.same sc)
          generalize (upd H4 c (.tup (ns.map V.int))) = G5 at st5 hl5 ex5 hc5 o5 ⊢
          refine ⟨.ref l, rfl, .inl ⟨rfl, _, SqL.of hl5⟩, .ref c, rfl, .ref a, rfl, .int far, rfl, (by show 5 ≤ sizeLine; decide), fun p6 n6 => ?_⟩
          have s6 := Same.new (o := .lst [.int 0, .int 1, .int 2, .int 3, .int far]) n6
          have st6 := st5.same s6
          refine ⟨a, p6, _, rfl, st6, fun z => ?_, SqL.of upd_same, (by show 1 ≤ 5; decide), (by show 5 ≤ 100000; decide), fun k x H7 hx o7 st7 => ?_⟩
          · obtain ⟨_, e⟩ := st5.lst
            rw [← z, n6] at e
            cases e
          · have hx2 : ∃ t : Int, x = .int t ∧ 0 ≤ t ∧ t < lim1 := by
              match k, hx with
              | 0, hx => exact ⟨0, (Option.some.inj hx).symm, by decide, by decide⟩
              | 1, hx => exact ⟨1, (Option.some.inj hx).symm, by decide, by decide⟩
              | 2, hx => exact ⟨2, (Option.some.inj hx).symm, by decide, by decide⟩
              | 3, hx => exact ⟨3, (Option.some.inj hx).symm, by decide, by decide⟩
              | 4, hx => exact ⟨far, (Option.some.inj hx).symm, f0, f1⟩
              | k + 5, hx => cases hx
            obtain ⟨t, rfl, t0, t1⟩ := hx2
            have ex7 := (Ex.same s6).trans (o7.ex' st6 st7)
            have hl7 := o7 _ _ nla (s6 _ _ hl5)
            have hc7 := ex7.tup (K := K) (SqT.of hc5)
            refine ⟨(by show 2 ≤ sizeLine; decide), fun p8 n8 => ?_⟩
            have s8 := Same.new (o := .tup [.ref c, .int t]) n8
            have hl8 := s8 _ _ hl7
            have st8 := st7.same s8
            refine ⟨l, zs, _, rfl, rfl, hl8, by omega, zs ++ [.ref p8], ds ++ [.tup [.tup (ns.map D.int), .int t]], some (.int (0 + (i : Int))), some (.ref c), rfl, ?_, st8.off (Ne.symm nla) .put, upd_same, ?_, ?_, ?_, ?_, ?_⟩
            · intro b o nb e
              have nbl : b ≠ l := ne_of_none e nl
              rw [upd_ne nbl]
              exact s8 _ _ (o7 _ _ nb (s6 _ _ (o5 _ _ nb (o3 _ _ nb (o2 _ _ nb (off _ _ nb e))))))
            · have exA := (ex5.trans ex7).trans (.same s8)
              refine (RddAll.ex (exA.trans (sqT_put hl8)) _ hr2).append (.cons ?_ .nil)
              have exB := (Ex.same s8).trans (sqT_put (ys := zs ++ [.ref p8]) hl8)
              refine .tup ((sqT_put hl8).tup (SqT.of upd_same)) (.cons (.tup (exB.tup hc7) (ints_rdd ns) ?_) (.cons (.int _) .nil)) (by show 2 ≤ 100000; decide)
              rw [List.length_map]
              omega
            · intro d hd
              rcases List.mem_append.mp hd with h | h
              · exact ok d h
              · rw [List.mem_singleton] at h
                subst h
                refine okEl_pair (fun z => ?_) (by omega) hnb t0 t1
                rw [z] at hnl
                simp at hnl
                omega
            · rw [List.length_append]
              exact Nat.succ_le_succ hlen
            · rw [wts_append, List.length_append]
              simp only [D.wts, D.wt, List.length_cons, List.length_nil, ints_wts]
              omega
            · have e1 : steps (.tup [.tup (ns.map D.int), .int t]) = ns.length * t := by
                show ((ns.map D.int).length : Int) * t = _
                rw [List.length_map]
              have e4 : (ns.length : Int) * t ≤ 3 * t := Int.mul_le_mul_of_nonneg_right (by omega) t0
              have e2 : lenOf [] = 0 := rfl
              have e3 : lim1 = 1000000000000000000000000000001 := rfl
              rw [lenOf_append, List.length_append, lenOf_cons, e1, e2, e3]
              rw [e3] at hlo t1
              simp only [List.length_cons, List.length_nil]
              omega
    · rintro σ' H' ⟨zs, ds, y4, y5, rfl, off, st, hl, hr2, ok, hlen, hw, hlo⟩
      refine ⟨.ref l, rfl, l, zs, rfl, .inl ⟨SqL.of hl, fun u nu => ?_⟩⟩
      have su := Same.new (o := .tup zs) nu
      have z1 := hr2.length
      exact q u _ ds (off.trans (.same su)) (st.same su) (.tup (SqT.of upd_same) (RddAll.ex (.same su) _ hr2) (by omega)) ok (by omega) hw hlo
end
end Sl

set_option Elab.async false
set_option linter.all false
set_option maxRecDepth 100000
set_option maxHeartbeats 400000
namespace Sl
open PySem PySem.Spec PyProof.Rows L2
section
variable {K : PySem.W.Frag} {σ : L2.St} {G : Hp}
theorem Rdd.tupz {H : Hp} {v : V} {ds : List D} (h : Rdd K H v (.tup ds)) : ds.length ≤ 100000 := by
  cases h with
  | tup _ _ z => exact z
theorem gv_cat {ta tb : TE} {ds es : List D} (h1 : Gv K σ G ta (.tup ds)) (h2 : Gv K σ G tb (.tup es)) (hz : ds.length + es.length ≤ 100000) : Gv K σ G (tOp (rCatA K) ta tb) (.tup (ds ++ es)) := fun H Q s q =>
  h1 H _ s fun v H1 s1 r1 => h2 H1 _ (s.trans s1) fun u H2 s2 r2 => by
    obtain ⟨a, xs, rfl, hs, ha, _⟩ := (Rdd.ex (.same s2) _ r1).tupd
    obtain ⟨b, ys, rfl, hs2, ha2, _⟩ := r2.tupd
    exact cat_gv hs hs2 ha ha2 hz fun v H' s3 r3 => q v H' ((s1.trans s2).trans s3) r3
theorem gv_to {te tk : TE} {ds : List D} {k : Int} (h1 : Gv K σ G te (.tup ds)) (h2 : Gv K σ G tk (.int k)) (hk : 0 ≤ k) : Gv K σ G (tSl (rSlA K) te tNoPart (tPart tk)) (.tup (ds.take k.toNat)) := fun H Q s q =>
  h1 H _ s fun v H1 s1 r1 => h2 H1 _ (s.trans s1) fun u H2 s2 r2 => by
    cases r2
    have hz := r1.tupz
    obtain ⟨a, xs, rfl, hs, ha, _⟩ := (Rdd.ex (.same s2) _ r1).tupd
    exact ⟨k, rfl, to_gv hk hs ha hz fun v H' s3 r3 => q v H' ((s1.trans s2).trans s3) r3⟩
theorem gv_from {te tk : TE} {ds : List D} {k : Int} (h1 : Gv K σ G te (.tup ds)) (h2 : Gv K σ G tk (.int k)) (hk : 0 ≤ k) : Gv K σ G (tSl (rSlA K) te (tPart tk) tNoPart) (.tup (ds.drop k.toNat)) := fun H Q s q =>
  h1 H _ s fun v H1 s1 r1 => h2 H1 _ (s.trans s1) fun u H2 s2 r2 => by
    cases r2
    have hz := r1.tupz
    obtain ⟨a, xs, rfl, hs, ha, _⟩ := (Rdd.ex (.same s2) _ r1).tupd
    exact ⟨k, rfl, from_gv hk hs ha hz fun v H' s3 r3 => q v H' ((s1.trans s2).trans s3) r3⟩
theorem gv_list {te : TE} {ds : List D} (h1 : Gv K σ G te (.tup ds)) : Gv K σ G (tCB (fun xs H Q => ∃ p ys, xs = [.ref p] ∧ (SqL K H p ys ∨ SqT K H p ys) ∧ ∀ l, H l = none → Q (.ref l) (upd H l (.lst ys))) (tCons te tNil)) .lst := fun H Q s q =>
  h1 H _ s fun v H1 s1 r1 => by
    obtain ⟨a, xs, rfl, hs, ha, _⟩ := r1.tupd
    exact ⟨a, xs, rfl, .inr hs, fun l nl => q _ _ (s1.trans (Same.new nl)) (.lst (.base (.lst upd_same)))⟩
end
abbrev sNear : Stmt := topS 34
theorem scNear : FnScope ["_law_stream_here", "_law_address_here", "_law_at", "_law_odd", "_law_some"] ["_law_stream_here", "_law_address_here"] (defScope sNear) := ⟨rfl, rfl, rfl, by decide +kernel, rfl, by decide +kernel, by decide +kernel⟩
section
variable {P : Program} {w : World} {K : PySem.W.Frag} {mg : Str → Option Value} {base : Heap}
variable {fD fP : Addr} {fdD fdP : FuncData}
/-- some value; the stream may have moved -/
def spNear (K : PySem.W.Frag) : Sp := fun vs H Q _ => ∃ (a : Addr) (v : V) (ds : List D), vs = [.ref a, v] ∧ Stm a H ∧ Rdd K H v (.tup ds) ∧ ds.length ≤ 1000 ∧ ∀ u d H', Off a H H' → Stm a H' → Rdd K H' u d → Q u H'
theorem ok_near {f fO : Addr} {fd fdO : FuncData} (F : Fun K "_law_near_address" "_law_near_address" sNear f fd) (FO : Fun K "_law_odd_element" "_law_odd_element" sOdd fO fdO) (bO : Binds K fdO ["_law_stream_here"] []) (gO : mg "_law_odd_element" = some (.ref fO))
    (T : Lp K mg fD fP fdD fdP) (B : Bj mg) : FnOk P w K mg base CX0 4 f fd ["_law_stream_here", "_law_address_here"] (spNear K) := by
  have GD : FnOk P w K mg base CX0 1 fD fdD ["_law_stream_here", "_law_high"] spDraw := ok_draw T.FD B
  have GP : FnOk P w K mg base CX0 2 fP fdP ["_law_stream_here", "_law_items"] (spPick K) := ok_pick T.FP T.FD T.bD T.gD B
  have GO : FnOk P w K mg base CX0 3 fO fdO ["_law_stream_here"] (spOdd K) := ok_odd FO T.FD T.bD T.gD T.FP T.bP T.gP B
  refine F.ok scNear (fun vs H Q E h => ?_) (fun cdv A outer s H vs Q E hr h => ?_)
  · obtain ⟨a, v, ds, rfl, _⟩ := h
    rfl
  · obtain ⟨a, v, ds, rfl, hs, hv, hz, q⟩ := h
    obtain ⟨b, xs, rfl, hb, hx, hz2⟩ := hv.tupd
    have hr1 := hr.mono (by decide : 1 ≤ 3)
    have hr2 := hr.mono (by decide : 2 ≤ 3)
    refine ⟨_, (pss_cons (ps_par (i := 2) (j := 3) (by rfl) scNear.nd rfl rfl (by decide) rfl rfl (pa_cons (pe_call GD hr1 (by rfl) T.gD T.FD.kp T.bD .nil pass0 (pa_cons (pv 0) (pa_cons (pe_op op_add (pe_callB call_len_seq (by rfl) B.len PySem.boot_len (pa_cons (pv 1) pa_nil)) pe_int) pa_nil))) (pa_cons (pe_call GO hr (by rfl) gO FO.kp bO .nil pass0 (pa_cons (pv 0) pa_nil)) pa_nil)) (by rfl))
      (pss_cons (ps_set (i := 4) scNear.nd rfl (Or.inl rfl) (pe_lst (pa_cons (pe_callTy call_list_of (by rfl) B.list (by decide +kernel) (pa_cons (pv 1) pa_nil)) (pa_cons pe_non (pa_cons pe_int (pa_cons pe_str (pa_cons pe_dnewK (pa_cons (pe_op op_catA (pv 1) (pe_tup (pa_cons (pv 3) pa_nil))) (pa_cons (pe_op op_catA (pe_op op_catA (pe_slice sl_tupA (pv 1) po_none (po_some (pv 2))) (pe_tup (pa_cons (pv 3) pa_nil))) (pe_slice sl_tupA (pv 1) (po_some (pv 2)) po_none)) (pa_cons (pe_tup (pa_cons (pv 1) pa_nil)) (pa_cons pe_bl pa_nil)))))))))))
      (pss_one (ps_ret (pe_call GP hr2 (by rfl) T.gP T.FP.kp T.bP .nil pass0 (pa_cons (pv 0) (pa_cons (pe_op op_cat (pv 4) (pe_op op_rep (pe_lst (pa_cons (pe_op op_catA (pe_op op_catA (pe_slice sl_tupA (pv 1) po_none (po_some (pv 2))) (pe_tup (pa_cons (pv 3) pa_nil))) (pe_slice sl_tupA (pv 1) (po_some (pe_op op_add (pv 2) pe_int)) po_none)) pa_nil)) pe_int)) pa_nil))))))), ?_⟩
    have hl := hx.length
    have hline : sizeLine = 16777216 := sizeLine_eq
    refine ⟨.ref a, rfl, .ref b, rfl, b, xs, rfl, .inr hb, _, _, rfl, rfl, a, _, rfl, hs, by omega, two_thousand (by omega) (by omega), fun r H1 r0 r1 o1 st1 => ?_⟩
    refine ⟨.ref a, rfl, a, rfl, st1, fun u d H2 o2 st2 ru => ⟨_, _, rfl, ?_⟩⟩
    have ex2 := (o1.ex' hs st1).trans (o2.ex' st1 st2)
    have hv2 : Rdd K H2 (.ref b) (.tup ds) := Rdd.ex ex2 _ (.tup hb hx hz2)
    have off2 := o1.trans o2
    have g1 : Gv K [some (.ref a), some (.ref b), some (.int r), some u, none] H2 (tVar 1) (.tup ds) := gv_var rfl hv2
    have g2 : Gv K [some (.ref a), some (.ref b), some (.int r), some u, none] H2 (tVar 2) (.int r) := gv_var rfl (.int r)
    have g3 : Gv K [some (.ref a), some (.ref b), some (.int r), some u, none] H2 (tTup (tCons (tVar 3) tNil)) (.tup [d]) := gv_tup (gva_cons (gv_var rfl ru) gva_nil)
    have dc : Gv K [some (.ref a), some (.ref b), some (.int r), some u, none] H2 tDNewK .dct := gv_dict fun H Q h => h
    have t1 : (ds.take r.toNat).length ≤ 1000 := by rw [List.length_take]; omega
    have t2 : (ds.drop r.toNat).length ≤ 1000 := by rw [List.length_drop]; omega
    unfold tSeq tAsg
    dsimp only
    refine lst_gv (K := K) (G := H2) (gva_cons (gv_list g1) (gva_cons gv_non (gva_cons (gv_int 0) (gva_cons (gv_str _) (gva_cons dc (gva_cons (gv_cat g1 g3 (by rw [List.length_singleton]; omega))
      (gva_cons (gv_cat (gv_cat (gv_to g1 g2 r0) g3 (by rw [List.length_singleton]; omega)) (gv_from g1 g2 r0) (by rw [List.length_append, List.length_singleton]; omega)) (gva_cons (gv_tup (gva_cons g1 gva_nil)) (gva_cons (gv_bl true) gva_nil))))))))) (Same.refl _) (by simp only [List.length_cons, List.length_nil]; omega) fun p3 vs3 H3 n3 s3 l3 r3 => ?_
    have e3 := r3.length
    refine ⟨.ref a, rfl, .ref p3, rfl, ?_⟩
    have k1 : Gv K [some (.ref a), some (.ref b), some (.int r), some u, some (.ref p3)] H3 (tVar 1) (.tup ds) := gv_var rfl (Rdd.ex (.same s3) _ hv2)
    have k2 : Gv K [some (.ref a), some (.ref b), some (.int r), some u, some (.ref p3)] H3 (tVar 2) (.int r) := gv_var rfl (.int r)
    have k3 : Gv K [some (.ref a), some (.ref b), some (.int r), some u, some (.ref p3)] H3 (tTup (tCons (tVar 3) tNil)) (.tup [d]) := gv_tup (gva_cons (gv_var rfl (Rdd.ex (.same s3) _ ru)) gva_nil)
    have t3 : (ds.drop (r + 1).toNat).length ≤ 1000 := by rw [List.length_drop]; omega
    show tLst _ _ H3 _
    refine lst_gv (K := K) (G := H3) (gva_cons (gv_cat (gv_cat (gv_to k1 k2 r0) k3 (by rw [List.length_singleton]; omega)) (gv_from k1 (gv_opI0 k2 (gv_int 1)) (by omega)) (by rw [List.length_append, List.length_singleton]; omega)) gva_nil) (Same.refl _) (by simp only [List.length_cons, List.length_nil]; omega) fun p4 vs4 H4 n4 s4 l4 r4 => ?_
    have e4 := r4.length
    rw [List.length_singleton] at e4
    refine ⟨p4, 4, vs4, rfl, rfl, l4, by decide, by decide, by rw [e4]; decide, fun p5 n5 => ?_⟩
    have s5 := Same.new (o := .lst (List.replicate (4 : Int).toNat vs4).flatten) n5
    have l5 : (upd H4 p5 (.lst (List.replicate (4 : Int).toNat vs4).flatten)) p5 = some (.lst (List.replicate (4 : Int).toNat vs4).flatten) := upd_same
    have r5 := (RddAll.ex (.same s5) _ r4).rep (4 : Int).toNat
    have e5 : ((List.replicate (4 : Int).toNat vs4).flatten).length = 4 := by
      rw [PyProof.Rows.lm_len_rep_flat, e4]
      rfl
    generalize (List.replicate (4 : Int).toNat vs4).flatten = ws at s5 l5 r5 e5 ⊢
    generalize (upd H4 p5 (.lst ws)) = G5 at s5 l5 r5 ⊢
    have e9 : vs3.length = 9 := by rw [e3]; rfl
    refine ⟨p3, p5, vs3, ws, rfl, rfl, s5 _ _ (s4 _ _ l3), l5, by omega, fun p6 n6 => ?_⟩
    have s6 := Same.new (o := .lst (vs3 ++ ws)) n6
    have l6 : (upd G5 p6 (.lst (vs3 ++ ws))) p6 = some (.lst (vs3 ++ ws)) := upd_same
    have r6 := (RddAll.ex (.same ((s4.trans s5).trans s6)) _ r3).append (RddAll.ex (.same s6) _ r5)
    have sB := (s3.trans (s4.trans s5)).trans s6
    obtain ⟨la, ea⟩ := (st2.same (s3.trans (s4.trans s5))).lst
    generalize (upd G5 p6 (.lst (vs3 ++ ws))) = G6 at s6 l6 r6 sB ⊢
    have st6 := st2.same sB
    refine ⟨a, p6, _, rfl, st6, fun z => ?_, SqL.of l6, ?_, ?_, fun i x H' hx off st => ?_⟩
    · rw [z, ea] at n6
      cases n6
    · rw [List.length_append]
      omega
    · rw [List.length_append]
      omega
    · obtain ⟨d6, _, rd⟩ := r6.get hx
      exact q x d6 H' ((off2.trans (Off.same sB)).trans off) st (Rdd.ex (off.ex' st6 st) d6 rd)
end
end Sl

set_option Elab.async false
set_option linter.all false
set_option maxRecDepth 100000
set_option maxHeartbeats 400000
namespace Sl
open PySem PySem.Spec PyProof.Rows L2
abbrev sLong : Stmt := topS 37
theorem scLong : FnScope ["_law_address_here", "e"] ["_law_address_here"] (defScope sLong) := ⟨rfl, rfl, rfl, by decide +kernel, rfl, by decide +kernel, by decide +kernel⟩
section
variable {P : Program} {w : World} {K : PySem.W.Frag} {mg : Str → Option Value} {base : Heap}
variable {fW fB fPc fPr fA : Addr} {fdW fdB fdPc fdPr fdA : FuncData} {fC fF fS fL : Addr} {fdC fdF fdS fdL : FuncData}
def spLong (K : PySem.W.Frag) : Sp := fun vs H Q _ => ∃ v ds, vs = [v] ∧ Rdd K H v (.tup ds) ∧ OkA ds ∧ (lenOf ds > 1000 → ∀ H', Same H H' → Q (.int 1000) H') ∧ (lenOf ds ≤ 1000 → ∀ p H', Same H H' → Rdd K H' (.ref p) (.tup (plainOf ds)) → Q (.ref p) H')
theorem ok_long {f fPl C fI : Addr} {fd fdPl : FuncData} (F : Fun K "_law_long" "_law_long" sLong f fd) (FPl : Fun K "plain" "plain" sPlain fPl fdPl) (bPl : Binds K fdPl ["address"] []) (gPl : mg "plain" = some (.ref fPl)) (M : PySem.TmX.TmTxt K mg C fI) (g1000 : ∃ t, mg "MAX_STEPS" = some (.int 1000 t))
    (T : Ad K mg fW fB fPc fPr fA fdW fdB fdPc fdPr fdA) (U : Ae K mg fC fF fS fL fdC fdF fdS fdL) (B : Bj mg) : FnOk P w K mg base CX0 11 f fd ["_law_address_here"] (spLong K) := by
  have GPl : FnOk P w K mg base (L2.CX P w) 10 fPl fdPl ["address"] (spPlain K C) := ok_plain FPl M g1000 T U B
  refine F.ok scLong (fun vs H Q E h => ?_) (fun cdv A outer s H vs Q E hr h => ?_)
  · obtain ⟨v, ds, rfl, _⟩ := h
    rfl
  · obtain ⟨v, ds, rfl, hv, ok, q1, q2⟩ := h
    refine ⟨_, pss_one (ps_try_as (i := 1) (tb := fun W => tRet (tCallS (spPlain K C) (WE W) (tCons (tVar 0) tNil))) (ts := fun a cls d => tRet (tByTm C a cls d (tVar 1))) (Wout := fun _ _ _ _ => False) rfl rfl scLong.nd rfl rfl ⟨rfl, by decide, Or.inl M.gC⟩ takes0
      (fun W pn xe tk _ => pss_one (ps_ret (by exact (pe_callS GPl hr rfl gPl FPl.kp bPl (fun σ => passAt tk σ) (by exact (pa_cons (pv 0) pa_nil))))))
      (fun a oe cls d pn hz hf => pss_one (ps_ret (by exact (pe_byTm M hz hf (pv 1)))))), ?_⟩
    refine ⟨v, rfl, v, ds, rfl, hv, ok, fun e d H' sm nd => ?_, fun e p H' sm rp => q2 e p H' sm rp⟩
    refine ⟨true, M.te, fun _ a0 _ => ?_, fun q => Bool.noConfusion q⟩
    exact ⟨_, rfl, rfl, rfl, d, _, rfl, upd_same, q1 e _ (sm.trans (Same.new nd))⟩
end
end Sl

set_option Elab.async false
set_option linter.all false
set_option maxRecDepth 100000
set_option maxHeartbeats 400000
namespace Sl
open PySem PySem.Spec PyProof.Rows L2
/-! ### the mathematics of cutting -/
theorem front_elems_len {d : D} {n : Int} (h : okEl d) (h0 : 0 ≤ n) (h1 : n < steps d) : OkA (front d n) ∧ lenOf (front d n) = n ∧ plainOf (front d n) = (elems d).take n.toNat := by
  rcases h with ⟨i, rfl, hi0, hi1⟩ | ⟨p, t, rfl, hp, hl, ha, ht0, ht1⟩
  · have e1 : n = 0 := by
      have : steps (.int i) = 1 := rfl
      omega
    subst e1
    exact ⟨fun d hd => absurd hd (by show d ∉ ([] : List D); simp), rfl, rfl⟩
  · have p0 : 0 < p.length := by
      cases p with
      | nil => exact absurd rfl hp
      | cons _ _ => exact Nat.succ_pos _
    have hs : steps (.tup [.tup p, .int t]) = p.length * t := rfl
    rw [hs] at h1
    have r0 : 0 ≤ n % (p.length : Int) := Int.emod_nonneg _ (by omega)
    have r1 : n % (p.length : Int) < p.length := Int.emod_lt_of_pos _ (by omega)
    have q0 : 0 ≤ n / (p.length : Int) := Int.ediv_nonneg h0 (by omega)
    have qt : n / (p.length : Int) < t := Int.ediv_lt_of_lt_mul (by omega) (by rw [Int.mul_comm]; exact h1)
    have dm : n = p.length * (n / (p.length : Int)) + n % (p.length : Int) := (Int.mul_ediv_add_emod n p.length).symm
    -- the digits of the piece
    have okp : ∀ k : Nat, OkA (p.take k) ∧ lenOf (p.take k) = (p.take k).length ∧ plainOf (p.take k) = p.take k := by
      have one : ∀ x ∈ p, ∃ i, x = .int i ∧ 0 ≤ i ∧ i < 3 := fun x hx => by
        have hb := ha x hx
        cases x with
        | int i =>
          have hb2 : (decide (0 ≤ i) && decide (i < 3)) = true := hb
          rw [Bool.and_eq_true, decide_eq_true_eq, decide_eq_true_eq] at hb2
          exact ⟨i, rfl, hb2.1, hb2.2⟩
        | _ => cases hb
      have all : ∀ l : List D, (∀ x ∈ l, ∃ i, x = .int i ∧ 0 ≤ i ∧ i < 3) → OkA l ∧ lenOf l = l.length ∧ plainOf l = l := by
        intro l
        induction l with
        | nil => intro _; exact ⟨fun d hd => absurd hd (by simp), rfl, rfl⟩
        | cons x l ih =>
          intro hx
          obtain ⟨i, rfl, a0, a1⟩ := hx x List.mem_cons_self
          obtain ⟨b1, b2, b3⟩ := ih fun y hy => hx y (List.mem_cons_of_mem _ hy)
          refine ⟨fun d hd => ?_, ?_, ?_⟩
          · rcases List.mem_cons.mp hd with e | e
            · rw [e]
              exact okEl_int a0 a1
            · exact b1 d e
          · rw [lenOf_cons, b2, List.length_cons]
            show (1 : Int) + _ = _
            omega
          · show elems (.int i) ++ plainOf l = _
            rw [b3]
            rfl
      intro k
      exact all _ fun x hx => one x (List.mem_of_mem_take hx)
    obtain ⟨t1, t2, t3⟩ := okp (n % (p.length : Int)).toNat
    have lt : (p.take (n % (p.length : Int)).toNat).length = (n % (p.length : Int)).toNat := by
      rw [List.length_take]
      omega
    have rep : (List.replicate t.toNat p).flatten.take n.toNat = (List.replicate (n / (p.length : Int)).toNat p).flatten ++ p.take (n % (p.length : Int)).toNat := by
      have e1 : t.toNat = (n / (p.length : Int)).toNat + ((t.toNat - (n / (p.length : Int)).toNat - 1) + 1) := by omega
      have e2 : (List.replicate (n / (p.length : Int)).toNat p).flatten.length = (n / (p.length : Int)).toNat * p.length := by rw [PyProof.Rows.lm_len_rep_flat]
      have e3 : n.toNat = (n / (p.length : Int)).toNat * p.length + (n % (p.length : Int)).toNat := by
        have h9 : ((((n / (p.length : Int)).toNat * p.length + (n % (p.length : Int)).toNat : Nat)) : Int) = n := by
          rw [Int.natCast_add, Int.natCast_mul, Int.toNat_of_nonneg q0, Int.toNat_of_nonneg r0, Int.mul_comm]
          exact dm.symm
        omega
      rw [e1, ← List.replicate_append_replicate, List.flatten_append, List.take_append, e2, e3]
      rw [List.take_of_length_le (by rw [e2]; omega), Nat.add_sub_cancel_left, List.replicate_succ, List.flatten_cons, List.take_append_of_le_length (by omega)]
    have fr : front (.tup [.tup p, .int t]) n = (if n / (p.length : Int) > 0 then [.tup [.tup p, .int (n / (p.length : Int))]] else []) ++ p.take (n % (p.length : Int)).toNat := rfl
    have el : elems (.tup [.tup p, .int t]) = (List.replicate t.toNat p).flatten := rfl
    rw [fr, el, rep]
    by_cases hq : n / (p.length : Int) > 0
    · rw [if_pos hq]
      refine ⟨fun d hd => ?_, ?_, ?_⟩
      · rcases List.mem_append.mp hd with e | e
        · rw [List.mem_singleton] at e
          rw [e]
          exact .inr ⟨p, _, rfl, hp, hl, ha, q0, by omega⟩
        · exact t1 d e
      · show lenOf (.tup [.tup p, .int (n / (p.length : Int))] :: p.take (n % (p.length : Int)).toNat) = n
        rw [lenOf_cons, t2, lt]
        show (p.length : Int) * (n / (p.length : Int)) + _ = n
        omega
      · show elems (.tup [.tup p, .int (n / (p.length : Int))]) ++ plainOf (p.take (n % (p.length : Int)).toNat) = _
        rw [t3]
        rfl
    · rw [if_neg hq]
      have q00 : n / (p.length : Int) = 0 := by omega
      refine ⟨t1, ?_, ?_⟩
      · show lenOf (p.take (n % (p.length : Int)).toNat) = n
        rw [t2, lt]
        rw [q00] at dm
        omega
      · show plainOf (p.take (n % (p.length : Int)).toNat) = _
        rw [t3, q00]
        rfl
theorem cut_right : ∀ {ds : List D} {n : Int}, OkA ds → 0 ≤ n → n ≤ lenOf ds → OkA (cutOf ds n) ∧ lenOf (cutOf ds n) = n ∧ plainOf (cutOf ds n) = (plainOf ds).take n.toNat
  | [], n, _, h0, h1 => by
    have e : n = 0 := by
      have : lenOf [] = 0 := rfl
      omega
    subst e
    exact ⟨fun d hd => absurd hd (by show d ∉ ([] : List D); simp), rfl, rfl⟩
  | d :: ds, n, ok, h0, h1 => by
    have okd := ok d List.mem_cons_self
    have okr : OkA ds := fun x hx => ok x (List.mem_cons_of_mem _ hx)
    have hp : plainOf (d :: ds) = elems d ++ plainOf ds := rfl
    have el := elems_len okd
    rw [lenOf_cons] at h1
    have un : cutOf (d :: ds) n = if n = 0 then [] else if steps d ≤ n then d :: cutOf ds (n - steps d) else front d n := rfl
    rw [un]
    by_cases e0 : n = 0
    · rw [if_pos e0, e0]
      exact ⟨fun d hd => absurd hd (by simp), rfl, rfl⟩
    · rw [if_neg e0]
      by_cases e1 : steps d ≤ n
      · rw [if_pos e1]
        obtain ⟨c1, c2, c3⟩ := cut_right (ds := ds) (n := n - steps d) okr (by omega) (by omega)
        refine ⟨fun x hx => ?_, ?_, ?_⟩
        · rcases List.mem_cons.mp hx with e | e
          · rw [e]
            exact okd
          · exact c1 x e
        · rw [lenOf_cons, c2]
          omega
        · show elems d ++ plainOf (cutOf ds (n - steps d)) = _
          have tk : (elems d).take n.toNat = elems d := List.take_of_length_le (by omega)
          have tn : (n - steps d).toNat = n.toNat - (elems d).length := by omega
          rw [c3, hp, List.take_append, tk, tn]
      · rw [if_neg e1]
        obtain ⟨c1, c2, c3⟩ := front_elems_len okd h0 (by omega)
        refine ⟨c1, c2, ?_⟩
        rw [c3, hp, List.take_append_of_le_length (by omega)]
/-! ### sizes: pieces of at most three numbers -/
theorem digit_good {x : D} (h : dBelow 3 x = true) : x.good = true ∧ x.wt = 129 ∧ x.dep = 0 := by
  cases x with
  | int i =>
    have hb2 : (decide (0 ≤ i) && decide (i < 3)) = true := h
    rw [Bool.and_eq_true, decide_eq_true_eq, decide_eq_true_eq] at hb2
    refine ⟨?_, by simp only [D.wt], by simp only [D.dep]⟩
    simp only [D.good, decide_eq_true_eq]
    rcases (by omega : i = 0 ∨ i = 1 ∨ i = 2) with rfl | rfl | rfl <;> decide
  | _ => cases h
theorem digits_good : ∀ {p : List D}, (∀ x ∈ p, dBelow 3 x = true) → D.goods p = true ∧ D.wts p = 131 * p.length ∧ D.deps p = 0
  | [], _ => by simp [D.goods, D.wts, D.deps]
  | x :: p, h => by
    obtain ⟨a1, a2, a3⟩ := digit_good (h x List.mem_cons_self)
    obtain ⟨b1, b2, b3⟩ := digits_good (p := p) fun y hy => h y (List.mem_cons_of_mem _ hy)
    simp only [D.goods, D.wts, D.deps, a1, a2, a3, b1, b2, b3, List.length_cons, Bool.and_self]
    exact ⟨trivial, by omega, by omega⟩
/-- an element whose ints and whose text are small: at most m -/
theorem el_good {d : D} (h : okEl d) (hn : ∀ p t, d = .tup [.tup p, .int t] → t.natAbs.log2 < 128) : d.good = true ∧ d.dep ≤ 2 := by
  rcases h with ⟨i, rfl, hi0, hi1⟩ | ⟨p, t, rfl, hp, hl, ha, ht0, ht1⟩
  · obtain ⟨a, _, c⟩ := digit_good (below_of hi0 hi1)
    exact ⟨a, by omega⟩
  · obtain ⟨b1, b2, b3⟩ := digits_good ha
    have h1 := hn p t rfl
    refine ⟨?_, ?_⟩
    · simp only [D.good, D.goods, b1, Bool.true_and, Bool.and_true]
      exact decide_eq_true h1
    · simp only [D.dep, D.deps, b3]
      omega
theorem lim_log {t : Int} (h0 : 0 ≤ t) (h : t < lim1) : t.natAbs.log2 < 128 := by
  by_cases e : t.natAbs = 0
  · rw [e]
    decide
  · refine (Nat.log2_lt e).mpr ?_
    have : t.natAbs < 2 ^ 128 := by
      have h1 : lim1 < 2 ^ 128 := by decide
      omega
    exact this
theorem okA_good {ds : List D} (h : OkA ds) : D.good (.tup ds) = true ∧ D.dep (.tup ds) ≤ 3 := by
  have all : ∀ {ds : List D}, OkA ds → D.goods ds = true ∧ D.deps ds ≤ 2 := by
    intro ds
    induction ds with
    | nil => intro _; simp [D.goods, D.deps]
    | cons d ds ih =>
      intro h
      have okd := h d List.mem_cons_self
      obtain ⟨a, b⟩ := el_good okd fun p t e => by
        rcases okd with ⟨i, e2, _⟩ | ⟨p2, t2, e2, _, _, _, h0, h1⟩
        · rw [e2] at e
          cases e
        · rw [e2] at e
          cases e
          exact lim_log h0 h1
      obtain ⟨c, e⟩ := ih fun x hx => h x (List.mem_cons_of_mem _ hx)
      simp only [D.goods, D.deps, a, c, Bool.and_self, true_and]
      omega
  obtain ⟨a, b⟩ := all h
  simp only [D.good, D.dep]
  exact ⟨a, by omega⟩
/-- cutting makes the text at most twice as long -/
theorem front_wts (d : D) (n : Int) : D.wts (front d n) ≤ 2 * (d.wt + 2) := by
  unfold front
  split
  · rename_i p t
    rw [wts_append]
    have h1 := wts_take (n % (p.length : Int)).toNat p
    have h2 : D.wt (.tup [.tup p, .int t]) = D.wts p + 139 := by simp only [D.wt, D.wts]
    have h3 : D.wts (if n / (p.length : Int) > 0 then [.tup [.tup p, .int (n / (p.length : Int))]] else []) ≤ D.wts p + 141 := by
      split
      · simp only [D.wt, D.wts]
        omega
      · simp only [D.wts]
        omega
    omega
  · simp only [D.wts]
    omega
theorem cut_wts : ∀ (ds : List D) (n : Int), D.wts (cutOf ds n) ≤ 2 * D.wts ds
  | [], n => by simp [cutOf, D.wts]
  | d :: ds, n => by
    have h1 := cut_wts ds (n - steps d)
    have h2 := front_wts d n
    unfold cutOf
    split
    · simp [D.wts]
    · split
      · simp only [D.wts]
        omega
      · simp only [D.wts]
        omega
end Sl

set_option Elab.async false
set_option linter.all false
set_option maxRecDepth 100000
set_option maxHeartbeats 400000
namespace Sl
open PySem PySem.Spec PyProof.Rows L2
abbrev sCuts : Stmt := topS 36
theorem scCuts : FnScope ["_law_stream_here", "_law_address_here", "_law_whole", "_law_some", "_law_far", "_law_found", "_law_turn"] ["_law_stream_here", "_law_address_here"] (defScope sCuts) := ⟨rfl, rfl, rfl, by decide +kernel, rfl, by decide +kernel, by decide +kernel⟩
/-- the program's and the law's own defs, as far as this law's last defs call them -/
structure Lz (K : PySem.W.Frag) (mg : Str → Option Value) (fCt fLc fPl fNb : Addr) (fdCt fdLc fdPl fdNb : FuncData) : Prop where
  FCt : Fun K "cut" "cut" sCut fCt fdCt
  bCt : Binds K fdCt ["address", "length"] []
  gCt : mg "cut" = some (.ref fCt)
  FLc : Fun K "_law_cut" "_law_cut" sLCut fLc fdLc
  bLc : Binds K fdLc ["_law_address_here", "_law_far"] []
  gLc : mg "_law_cut" = some (.ref fLc)
  FPl : Fun K "plain" "plain" sPlain fPl fdPl
  bPl : Binds K fdPl ["address"] []
  gPl : mg "plain" = some (.ref fPl)
  FNb : Fun K "_beginning" "_beginning" sBeg fNb fdNb
  bNb : Binds K fdNb ["pair", "many"] []
  gNb : mg "_beginning" = some (.ref fNb)
  max1000 : ∃ t, mg "MAX_STEPS" = some (.int 1000 t)
theorem plain_digits {ds : List D} (h : OkA ds) : ∀ x ∈ plainOf ds, dBelow 3 x = true := by
  intro x hx
  obtain ⟨l, hl, hx⟩ := List.mem_flatten.mp hx
  obtain ⟨d, hd, rfl⟩ := List.mem_map.mp hl
  rcases h d hd with ⟨i, rfl, h0, h1⟩ | ⟨p, t, rfl, _, _, ha, _⟩
  · have e : x = .int i := List.mem_singleton.mp hx
    rw [e]
    exact below_of h0 h1
  · obtain ⟨q, hq, hx⟩ := List.mem_flatten.mp (show x ∈ (List.replicate t.toNat p).flatten from hx)
    have e := (List.mem_replicate.mp hq).2
    rw [e] at hx
    exact ha x hx
theorem digits_tup {p : List D} (h : ∀ x ∈ p, dBelow 3 x = true) : D.good (.tup p) = true ∧ D.dep (.tup p) ≤ 1 := by
  obtain ⟨a, _, c⟩ := digits_good h
  simp only [D.good, D.dep, a, c]
  exact ⟨trivial, by omega⟩
section
variable {P : Program} {w : World} {K : PySem.W.Frag} {mg : Str → Option Value} {base : Heap}
variable {fW fB fPc fPr fA : Addr} {fdW fdB fdPc fdPr fdA : FuncData} {fC fF fS fL : Addr} {fdC fdF fdS fdL : FuncData}
variable {fLn fRo fWh fEl fIa : Addr} {fdLn fdRo fdWh fdEl fdIa : FuncData} {fD fP : Addr} {fdD fdP : FuncData}
variable {fCt fLc fPl fNb C fI : Addr} {fdCt fdLc fdPl fdNb : FuncData}
def spCuts (K : PySem.W.Frag) : Sp := fun vs H Q _ => ∃ (a : Addr) (v : V) (ds : List D), vs = [.ref a, v] ∧ Stm a H ∧ Rdd K H v (.tup ds) ∧ OkA ds ∧ ds.length ≤ 1000 ∧ D.wts ds ≤ 10000 ∧ lenOf ds ≤ 100 * lim1 ∧ ∀ H', Off a H H' → Stm a H' → Q (.bl true) H'
theorem ok_cuts {f : Addr} {fd : FuncData} (F : Fun K "_law_cuts_right" "_law_cuts_right" sCuts f fd) (T : Ad K mg fW fB fPc fPr fA fdW fdB fdPc fdPr fdA) (U : Ae K mg fC fF fS fL fdC fdF fdS fdL) (V1 : Lf K mg fLn fRo fWh fEl fIa fdLn fdRo fdWh fdEl fdIa)
    (Y : Lp K mg fD fP fdD fdP) (Z : Lz K mg fCt fLc fPl fNb fdCt fdLc fdPl fdNb) (M : PySem.TmX.TmTxt K mg C fI) (B : Bj mg) : FnG P w K mg base (L2.CX P w) 13 f fd ["_law_stream_here", "_law_address_here"] (spCuts K) := by
  have GD : FnOk P w K mg base CX0 1 fD fdD ["_law_stream_here", "_law_high"] spDraw := ok_draw Y.FD B
  have GLn : FnOk P w K mg base CX0 1 fLn fdLn ["_law_address_here"] (spLen K) := ok_llen V1 B
  have GCt : FnOk P w K mg base CX0 9 fCt fdCt ["address", "length"] (spCut K) := ok_cut Z.FCt Z.FNb Z.bNb Z.gNb T U B
  have GLc : FnOk P w K mg base CX0 2 fLc fdLc ["_law_address_here", "_law_far"] (spCut K) := ok_lcut Z.FLc V1 B
  have GL : FnOk P w K mg base CX0 8 fL fdL ["address"] (spLen K) := ok_len T U B
  have GA : FnOk P w K mg base CX0 6 fA fdA ["value"] (spD K dAddr) := ok_isaddr T B.toBi
  have GPl : FnOk P w K mg base (L2.CX P w) 10 fPl fdPl ["address"] (spPlain K C) := ok_plain Z.FPl M Z.max1000 T U B
  refine okG F scCuts (fun vs H Q E h => ?_) (fun cdv A outer s H vs Q E hG hr h => ?_)
  · obtain ⟨a, v, ds, rfl, _⟩ := h
    rfl
  · obtain ⟨a, v, ds, rfl, hs, hv, ok, z1, z2, z3, q⟩ := h
    have h1 := hr.mono (by decide : 1 ≤ 12)
    have h2 := hr.mono (by decide : 2 ≤ 12)
    have h5 := hr.mono (by decide : 6 ≤ 12)
    have h7 := hr.mono (by decide : 8 ≤ 12)
    have h8 := hr.mono (by decide : 9 ≤ 12)
    have h9 := hr.mono (by decide : 10 ≤ 12)
    refine ⟨_, PSs.nox (pss_cons (ps_set (i := 2) scCuts.nd rfl (Or.inr rfl) (pe_call GLn h1 (by rfl) V1.gLn V1.FLn.kp V1.bLn .nil pass0 (pa_cons (pv 1) pa_nil)))
      (pss_cons (ps_set (i := 3) scCuts.nd rfl (Or.inl rfl) (pe_lst (pa_cons pe_int (pa_cons (pv 2) (pa_cons (pe_callB (call_max2 rfl) (by rfl) B.max (by decide +kernel) (pa_cons pe_int (pa_cons (pe_op op_sub (pv 2) pe_int) pa_nil))) (pa_cons (pe_op op_fdivW (pv 2) pe_int) (pa_cons (pe_callB (call_min2 rfl) (by rfl) B.min (by decide +kernel) (pa_cons (pv 2) (pa_cons pe_int pa_nil))) (pa_cons (pe_callB (call_min2 rfl) (by rfl) B.min (by decide +kernel) (pa_cons (pv 2) (pa_cons (pe_op op_powW pe_int pe_int) pa_nil))) pa_nil))))))))
      (pss_cons (ps_for PassesOwn.never rfl (pi_list (pe_op op_cat (pv 3) (pe_lc (own := [("_law_turn", 6)]) (g := gName 6) (tt := tYes) rfl scCuts.nd (pi_range1 (by rfl) B.range (pa_cons pe_int pa_nil)) (blkOk_by (own := [("_law_turn", 6)]) (N := ["_law_stream_here", "_law_address_here", "_law_whole", "_law_some", "_law_far", "_law_found", "_law_turn"]) (sc := defScope sCuts) (by decide +kernel)) (fun _ _ _ _ _ => pg_name (i := 6) scCuts.nd rfl (Or.inl rfl)) (fun _ _ _ _ _ => pts_nil) (fun _ _ _ _ _ => (pe_call GD h1 (by rfl) Y.gD Y.FD.kp Y.bD .nil pass0 (pa_cons (pv 0) (pa_cons (pe_op op_add (pv 2) pe_int) pa_nil))))))) (pg_name (i := 4) scCuts.nd rfl (Or.inl rfl))
        (pss_cons (ps_set (i := 5) scCuts.nd rfl (Or.inl rfl) (pe_call GCt h8 (by rfl) Z.gCt Z.FCt.kp Z.bCt .nil pass0 (pa_cons (pv 1) (pa_cons (pv 4) pa_nil))))
      (pss_cons (ps_if (PW.pt (pw_or (pt_cmpR op_ne (pe_callB (call_repr (k := 12) hG hr) (by rfl) B.repr (by decide +kernel) (pa_cons (pv 5) pa_nil)) (pe_callB (call_repr (k := 12) hG hr) (by rfl) B.repr (by decide +kernel) (pa_cons (pe_call GLc h2 (by rfl) Z.gLc Z.FLc.kp Z.bLc .nil pass0 (pa_cons (pv 1) (pa_cons (pv 4) pa_nil))) pa_nil)) (nomark _)) (pw_or (pt_cmpR op_ne (pe_call GL h7 (by rfl) U.gL U.FL.kp U.bL .nil pass0 (pa_cons (pv 5) pa_nil)) (pv 4) (nomark _)) (pw_or1 (pt_cmpR op_notBl (pe_call GA h5 (by rfl) T.gA T.FA.kp T.bA .nil pass0 (pa_cons (pv 5) pa_nil)) pe_bl (nomark _))))))
        (pss_one (ps_ret pe_bl))
        pss_nil)
      (pss_one (ps_if (PW.pt (pw_and (pt_cmpR op_lt (pv 4) pe_int (nomark _)) (pw_and1 (pt_cmpR (op_neD hr.units) (pe_call GPl h9 (by rfl) Z.gPl Z.FPl.kp Z.bPl .nil passL (pa_cons (pv 5) pa_nil)) (pe_slice sl_tupA (pe_call GPl h9 (by rfl) Z.gPl Z.FPl.kp Z.bPl .nil passL (pa_cons (pe_call GCt h8 (by rfl) Z.gCt Z.FCt.kp Z.bCt .nil pass0 (pa_cons (pv 1) (pa_cons (pe_callB (call_min2 rfl) (by rfl) B.min (by decide +kernel) (pa_cons (pv 2) (pa_cons pe_int pa_nil))) pa_nil))) pa_nil)) po_none (po_some (pv 4))) (nomark _)))))
        (pss_one (ps_ret pe_bl))
        pss_nil)))))
      (pss_one (ps_ret pe_bl))))), ?_⟩
    have w0 := lenOf_pos ok
    have e3 : lim1 = 1000000000000000000000000000001 := rfl
    have wn : (lenOf ds + 1).natAbs < 2 ^ 200 := by
      have : (100 * lim1 + 1).natAbs < 2 ^ 200 := by decide
      omega
    have wbig : (lenOf ds + 1).natAbs < 2 ^ 2000 := Nat.lt_of_lt_of_le wn (Nat.pow_le_pow_right (by decide) (by decide))
    have hline : sizeLine = 16777216 := sizeLine_eq
    refine ⟨v, rfl, v, ds, rfl, hv, ok, fun H1 s1 => ?_⟩
    generalize hW : lenOf ds = W at w0 wn wbig z3 ⊢
    refine ⟨.int W, rfl, .int W, rfl, _, _, rfl, rfl, 0, _, rfl, .int W, rfl, _, _, rfl, rfl, wide_div (b := 2) (by decide) (by decide) (by decide) (by decide), .int W, rfl, W, 1, rfl, .int W, rfl, 10, 29, rfl, rfl, ⟨by decide, by decide +kernel⟩, W, _, rfl, (by show 6 ≤ sizeLine; decide), fun p np => ?_⟩
    dsimp only
    have six : ∃ fs : List Int, [V.int 0, V.int W, V.int (if W - 1 > 0 then W - 1 else 0), V.int (W / 2), V.int (if 1 < W then 1 else W), V.int (if (10 : Int) ^ (29 : Int).toNat < W then (10 : Int) ^ (29 : Int).toNat else W)] = fs.map V.int ∧ fs.length = 6 ∧ ∀ f ∈ fs, 0 ≤ f ∧ f ≤ W := by
      have p29 : 0 ≤ (10 : Int) ^ (29 : Int).toNat := by decide +kernel
      refine ⟨[0, W, if W - 1 > 0 then W - 1 else 0, W / 2, if 1 < W then 1 else W, if (10 : Int) ^ (29 : Int).toNat < W then (10 : Int) ^ (29 : Int).toNat else W], rfl, rfl, fun f hf => ?_⟩
      simp only [List.mem_cons, List.not_mem_nil, or_false] at hf
      rcases hf with rfl | rfl | rfl | rfl | rfl | rfl
      · omega
      · omega
      · split <;> omega
      · omega
      · split <;> omega
      · split <;> omega
    obtain ⟨fs, efs, lfs, bfs⟩ := six
    rw [efs]
    have sp := Same.new (o := .lst (fs.map V.int)) np
    have lp : (upd H1 p (.lst (fs.map V.int))) p = some (.lst (fs.map V.int)) := upd_same
    have sA := s1.trans sp
    generalize (upd H1 p (.lst (fs.map V.int))) = G1 at sp lp sA ⊢
    have stA := hs.same sA
    have npa : p ≠ a := fun z => by
      obtain ⟨_, e⟩ := (hs.same s1).lst
      rw [← z, np] at e
      cases e
    refine ⟨.ref p, rfl, 3, rfl, by decide, by decide, fun D0 nD => ?_⟩
    have nDa : D0 ≠ a := fun z => by
      obtain ⟨_, e⟩ := stA.lst
      rw [← z, nD] at e
      cases e
    refine lc_range (lo := 0) (n := 3) (fun j H' => ∃ ns : List Int, ns.length = j ∧ (∀ n ∈ ns, 0 ≤ n ∧ n ≤ W) ∧ H' D0 = some (.lst (ns.map V.int)) ∧ Off a G1 H' ∧ Stm a H')
      ⟨[], rfl, fun n hn => absurd hn (by simp), upd_same, Off.same (Same.new nD), stA.same (Same.new nD)⟩ ?_ ?_
    · rintro j H4 hj ⟨ns, hnl, hnb, hD, o4, st4⟩
      refine ⟨rfl, ?_⟩
      refine yes ⟨.ref a, rfl, .int W, rfl, _, _, rfl, rfl, a, W + 1, rfl, st4, by omega, wbig, fun r5 H5 r50 r51 o5 st5 => ?_⟩
      have hD5 := o5 _ _ nDa hD
      refine ⟨_, hD5, by rw [List.length_map]; omega, ns ++ [r5], by rw [List.length_append, hnl]; rfl, fun n hn => ?_, ?_, ?_, st5.off (Ne.symm nDa) .put⟩
      · rcases List.mem_append.mp hn with h | h
        · exact hnb n h
        · rw [List.mem_singleton] at h
          subst h
          exact ⟨r50, by omega⟩
      · rw [upd_same, List.map_append]
        rfl
      · intro b o nb e
        rw [upd_ne (ne_of_none e nD)]
        exact o5 _ _ nb (o4 _ _ nb e)
    · rintro H4 ⟨ns, hnl, hnb, hD, o4, st4⟩
      refine ⟨p, D0, _, _, rfl, rfl, o4 _ _ npa lp, hD, by rw [List.length_map, List.length_map]; omega, fun p2 np2 => ?_⟩
      have s5 := Same.new (o := .lst (fs.map V.int ++ ns.map V.int)) np2
      have l5 : (upd H4 p2 (.lst (fs.map V.int ++ ns.map V.int))) p2 = some (.lst (fs.map V.int ++ ns.map V.int)) := upd_same
      rw [← List.map_append] at s5 l5 ⊢
      have bnd : ∀ f ∈ fs ++ ns, 0 ≤ f ∧ f ≤ W := fun f hf => by
        rcases List.mem_append.mp hf with h | h
        · exact bfs f h
        · exact hnb f h
      have off5 : Off a H (upd H4 p2 (.lst ((fs ++ ns).map V.int))) := ((Off.same sA).trans o4).trans (.same s5)
      have st5 := st4.same s5
      generalize (upd H4 p2 (.lst ((fs ++ ns).map V.int))) = G5 at s5 l5 off5 st5 ⊢
      have np2a : p2 ≠ a := fun z => by
        obtain ⟨_, e⟩ := st4.lst
        rw [← z, np2] at e
        cases e
      generalize fs ++ ns = gs at l5 bnd ⊢
      refine ⟨p2, rfl, ⟨_, SqL.of l5⟩, for_list (K := K) (a := p2) (xs := gs.map V.int) (fun i σ' H' => ∃ y4 y5, σ' = [some (.ref a), some v, some (.int W), some (.ref p), y4, y5, none] ∧ Off a H H' ∧ Stm a H' ∧ H' p2 = some (.lst (gs.map V.int)))
        ⟨none, none, rfl, off5, st5, l5⟩ (fun i σ' H' _ ⟨y4, y5, _, _, _, hl⟩ => SqL.of hl) ?_ ?_⟩
      · rintro i x σ' H6 hx ⟨y4, y5, rfl, off6, st6, l6⟩
        obtain ⟨far, hfar, rfl⟩ : ∃ far, gs[i]? = some far ∧ x = .int far := by
          rw [List.getElem?_map] at hx
          cases e : gs[i]? with
          | none =>
            rw [e] at hx
            cases hx
          | some f =>
            rw [e] at hx
            exact ⟨f, rfl, (Option.some.inj hx).symm⟩
        obtain ⟨f0, f1⟩ := bnd far (List.mem_of_getElem? hfar)
        have hv6 := Rdd.ex (off6.ex' hs st6) _ hv
        obtain ⟨okc, lenc, plc⟩ := cut_right ok f0 (by rw [hW]; exact f1)
        obtain ⟨gc, dc⟩ := okA_good okc
        have wc : D.wt (.tup (cutOf ds far)) ≤ 1000000 := by
          have := cut_wts ds far
          simp only [D.wt]
          omega
        -- found = cut(address, far), and the law's own
        refine ⟨v, rfl, .int far, rfl, v, ds, far, rfl, hv6, ok, z1, f0, by rw [hW]; exact f1, fun pc H7 s7 rc => ?_⟩
        refine ⟨.ref pc, rfl, ?_⟩
        dsimp only [tNil]
        refine rRepr_of rc gc (by omega) wc ?_
        refine ⟨v, rfl, .int far, rfl, v, ds, far, rfl, Rdd.ex (.same s7) _ hv6, ok, z1, f0, by rw [hW]; exact f1, fun pl H8 s8 rl => ?_⟩
        dsimp only [tNil]
        refine rRepr_of rl gc (by omega) wc ⟨rfl, _, rfl, iteNS rfl ?_⟩
        have rc8 := Rdd.ex (.same s8) _ rc
        -- its length
        refine ⟨.ref pc, rfl, .ref pc, cutOf ds far, rfl, rc8, okc, fun H9 s9 => ⟨.int far, rfl, rfl, _, rfl, ?_⟩⟩
        rw [lenc]
        refine iteNS rfl ?_
        have rc9 := Rdd.ex (.same s9) _ rc8
        -- its form
        refine ⟨.ref pc, rfl, .ref pc, .tup (cutOf ds far), rfl, rc9, fun H10 s10 => ⟨_, true, rfl, rfl, _, rfl, ?_⟩⟩
        rw [okc.acc]
        refine iteF ?_
        have rc10 := Rdd.ex (.same s10) _ rc9
        have sT := s7.trans (s8.trans (s9.trans s10))
        have hv10 := Rdd.ex (.same sT) _ hv6
        have done : ∀ H', Same H6 H' → ∃ y4 y5, [some (.ref a), some v, some (V.int W), some (.ref p), some (.int far), some (.ref pc), none] = [some (.ref a), some v, some (.int W), some (.ref p), y4, y5, none] ∧ Off a H H' ∧ Stm a H' ∧ H' p2 = some (.lst (gs.map V.int)) :=
          fun H' sH => ⟨_, _, rfl, off6.trans (.same sH), st6.same sH, sH _ _ l6⟩
        refine ⟨.int far, rfl, _, _, rfl, rfl, _, rfl, ite2 (fun e => ?_) (fun e => ?_)⟩
        · have f40 : far < 40 := of_decide_eq_true e
          refine ⟨.ref pc, rfl, .ref pc, cutOf ds far, rfl, rc10, okc, fun z => absurd z (by rw [lenc]; omega), fun _ q1 H11 s11 r11 => ?_⟩
          have hm0 : 0 ≤ (if 40 < W then 40 else W) := by split <;> omega
          have hm1 : (if 40 < W then 40 else W) ≤ W := by split <;> omega
          have hm2 : far ≤ (if 40 < W then 40 else W) := by split <;> omega
          have hm3 : (if 40 < W then 40 else W) ≤ 40 := by split <;> omega
          refine ⟨v, rfl, .int W, rfl, W, 40, rfl, v, ds, _, rfl, Rdd.ex (.same s11) _ hv10, ok, z1, hm0, by rw [hW]; exact hm1, fun q2 H12 s12 r12 => ?_⟩
          obtain ⟨okm, lenm, plm⟩ := cut_right ok hm0 (by rw [hW]; exact hm1)
          refine ⟨.ref q2, _, rfl, r12, okm, fun z => absurd z (by rw [lenm]; omega), fun _ q3 H13 s13 r13 => ⟨.int far, rfl, far, rfl, ?_⟩⟩
          obtain ⟨b3, xs3, e33, hs3, ha3, hz3⟩ := r13.tupd
          cases e33
          refine to_gv f0 hs3 ha3 hz3 fun u14 H14 s14 r14 => ?_
          have same : (plainOf (cutOf ds (if 40 < W then 40 else W))).take far.toNat = plainOf (cutOf ds far) := by
            rw [plm, plc, List.take_take, Nat.min_eq_left (by omega)]
          rw [same] at r14
          obtain ⟨gd, dd⟩ := digits_tup (plain_digits okc)
          refine rNe_same (Rdd.ex (.same (s12.trans (s13.trans s14))) _ r11) r14 gd (by omega) ⟨_, rfl, iteF ?_⟩
          exact done _ (sT.trans (s11.trans (s12.trans (s13.trans s14))))
        · exact done _ sT
      · rintro σ' H6 ⟨y4, y5, rfl, off6, st6, l6⟩
        exact q H6 off6 st6
end
end Sl

set_option Elab.async false
set_option linter.all false
set_option maxRecDepth 100000
set_option maxHeartbeats 400000
namespace Sl
open PySem PySem.Spec PyProof.Rows L2
abbrev sRight : Stmt := topS 38
theorem scRight : FnScope ["_law_stream_here", "_law_address_here", "_law_whole", "_law_turn", "_law_value"] ["_law_stream_here"] (defScope sRight) := ⟨rfl, rfl, rfl, by decide +kernel, rfl, by decide +kernel, by decide +kernel⟩
/-- the last of the law's own defs -/
structure Lr (K : PySem.W.Frag) (mg : Str → Option Value) (fAd fLo fOd fNe fCu : Addr) (fdAd fdLo fdOd fdNe fdCu : FuncData) : Prop where
  FAd : Fun K "_law_address" "_law_address" sLAddr fAd fdAd
  bAd : Binds K fdAd ["_law_stream_here", "_law_much", "_law_far"] []
  gAd : mg "_law_address" = some (.ref fAd)
  FLo : Fun K "_law_long" "_law_long" sLong fLo fdLo
  bLo : Binds K fdLo ["_law_address_here"] []
  gLo : mg "_law_long" = some (.ref fLo)
  FOd : Fun K "_law_odd_element" "_law_odd_element" sOdd fOd fdOd
  bOd : Binds K fdOd ["_law_stream_here"] []
  gOd : mg "_law_odd_element" = some (.ref fOd)
  FNe : Fun K "_law_near_address" "_law_near_address" sNear fNe fdNe
  bNe : Binds K fdNe ["_law_stream_here", "_law_address_here"] []
  gNe : mg "_law_near_address" = some (.ref fNe)
  FCu : Fun K "_law_cuts_right" "_law_cuts_right" sCuts fCu fdCu
  bCu : Binds K fdCu ["_law_stream_here", "_law_address_here"] []
  gCu : mg "_law_cuts_right" = some (.ref fCu)
section
variable {P : Program} {w : World} {K : PySem.W.Frag} {mg : Str → Option Value} {base : Heap}
variable {fW fB fPc fPr fA : Addr} {fdW fdB fdPc fdPr fdA : FuncData} {fC fF fS fL : Addr} {fdC fdF fdS fdL : FuncData}
variable {fLn fRo fWh fEl fIa : Addr} {fdLn fdRo fdWh fdEl fdIa : FuncData} {fD fP : Addr} {fdD fdP : FuncData}
variable {fCt fLc fPl fNb C fI : Addr} {fdCt fdLc fdPl fdNb : FuncData} {fAd fLo fOd fNe fCu : Addr} {fdAd fdLo fdOd fdNe fdCu : FuncData}
def spRows (K : PySem.W.Frag) : Sp := fun vs H Q _ => ∃ v ds, vs = [v] ∧ Rdd K H v (.tup ds) ∧ OkA ds ∧ lenOf ds ≤ 1000 ∧ ∀ p H', Same H H' → Rdd K H' (.ref p) (.tup (plainOf ds)) → Q (.ref p) H'
/-- the program's word and the law's are the same -/
theorem long_or {σ : L2.St} {H : Hp} {Q : VK} {v : V} {ds : List D} (h1 : σ[1]? = some (some v)) (h2 : σ[2]? = some (some (.int (lenOf ds)))) (rd : Rdd K H v (.tup ds)) (ok : OkA ds) (w : D.wts ds ≤ 3000) (q : ∀ H', Same H H' → Q (.bl false) H') :
    tOp (rNeD K) (tCall (spLong K) [] E0 (tCons (tVar 1) tNil)) (tIf (tTest (tOp (rI0 fun i j => V.bl (decide (i ≤ j))) (tVar 2) (tC (V.int 1000)))) (tCall (spRows K) [] E0 (tCons (tVar 1) tNil)) (tC (V.int 1000))) σ H Q := by
  refine ⟨v, h1, v, ds, rfl, rd, ok, fun e H7 s7 => ?_, fun e pl H7 s7 rl => ?_⟩
  · refine ⟨.int (lenOf ds), h2, _, _, rfl, rfl, _, rfl, ?_⟩
    rw [decide_eq_false (show ¬ (lenOf ds ≤ 1000) by omega)]
    refine iteF ?_
    exact rNe_same (d := .int 1000) (.int 1000) (.int 1000) (by decide +kernel) (by decide) (q _ s7)
  · refine ⟨.int (lenOf ds), h2, _, _, rfl, rfl, _, rfl, ?_⟩
    rw [decide_eq_true e]
    refine iteT ⟨v, h1, v, ds, rfl, Rdd.ex (.same s7) _ rd, ok, e, fun pr H8 s8 rr => ?_⟩
    obtain ⟨gd, dd⟩ := digits_tup (plain_digits ok)
    exact rNe_same (Rdd.ex (.same s8) _ rl) rr gd (by omega) (q _ (s7.trans s8))
def spRight : Sp := fun vs H Q _ => ∃ (a : Addr), vs = [.ref a] ∧ Stm a H ∧ ∀ H', Off a H H' → Stm a H' → Q (.bl true) H'
theorem ok_right {f : Addr} {fd : FuncData} (F : Fun K "_law_right" "_law_right" sRight f fd) (T : Ad K mg fW fB fPc fPr fA fdW fdB fdPc fdPr fdA) (U : Ae K mg fC fF fS fL fdC fdF fdS fdL) (V1 : Lf K mg fLn fRo fWh fEl fIa fdLn fdRo fdWh fdEl fdIa)
    (Y : Lp K mg fD fP fdD fdP) (Z : Lz K mg fCt fLc fPl fNb fdCt fdLc fdPl fdNb) (R : Lr K mg fAd fLo fOd fNe fCu fdAd fdLo fdOd fdNe fdCu) (M : PySem.TmX.TmTxt K mg C fI) (B : Bj mg) : FnG P w K mg base (L2.CX P w) 14 f fd ["_law_stream_here"] spRight := by
  have GP : FnOk P w K mg base CX0 2 fP fdP ["_law_stream_here", "_law_items"] (spPick K) := ok_pick Y.FP Y.FD Y.bD Y.gD B
  have GAd : FnOk P w K mg base CX0 3 fAd fdAd ["_law_stream_here", "_law_much", "_law_far"] (spAddr K) := ok_laddr R.FAd Y B
  have GLn : FnOk P w K mg base CX0 1 fLn fdLn ["_law_address_here"] (spLen K) := ok_llen V1 B
  have GA : FnOk P w K mg base CX0 6 fA fdA ["value"] (spD K dAddr) := ok_isaddr T B.toBi
  have GIa : FnOk P w K mg base CX0 3 fIa fdIa ["_law_value"] (spD K dAddr) := ok_lad V1 B.toBi
  have GL : FnOk P w K mg base CX0 8 fL fdL ["address"] (spLen K) := ok_len T U B
  have GRo : FnOk P w K mg base CX0 1 fRo fdRo ["_law_address_here"] (spRows K) := ok_lrows V1 B
  have GLo : FnOk P w K mg base CX0 11 fLo fdLo ["_law_address_here"] (spLong K) := ok_long R.FLo Z.FPl Z.bPl Z.gPl M Z.max1000 T U B
  have GNe : FnOk P w K mg base CX0 4 fNe fdNe ["_law_stream_here", "_law_address_here"] (spNear K) := ok_near R.FNe R.FOd R.bOd R.gOd Y B
  have GCu : FnG P w K mg base (L2.CX P w) 13 fCu fdCu ["_law_stream_here", "_law_address_here"] (spCuts K) := ok_cuts R.FCu T U V1 Y Z M B
  refine okG F scRight (fun vs H Q E h => ?_) (fun cdv A outer s H vs Q E hG hr h => ?_)
  · obtain ⟨a, rfl, _⟩ := h
    rfl
  · obtain ⟨a, rfl, hs, q⟩ := h
    have h1 := hr.mono (by decide : 1 ≤ 13)
    have h2 := hr.mono (by decide : 2 ≤ 13)
    have h3 := hr.mono (by decide : 3 ≤ 13)
    have h4 := hr.mono (by decide : 4 ≤ 13)
    have h5 := hr.mono (by decide : 6 ≤ 13)
    have h7 := hr.mono (by decide : 8 ≤ 13)
    have h10 := hr.mono (by decide : 11 ≤ 13)
    refine ⟨_, PSs.nox (pss_cons (ps_set (i := 1) scRight.nd rfl (Or.inl rfl) (pe_call GAd h3 (by rfl) R.gAd R.FAd.kp R.bAd .nil pass0 (pa_cons (pv 0) (pa_cons pe_int (pa_cons (pe_call GP h2 (by rfl) Y.gP Y.FP.kp Y.bP .nil pass0 (pa_cons (pv 0) (pa_cons (pe_lst (pa_cons pe_int (pa_cons (pe_op op_powW pe_int pe_int) (pa_cons pe_int (pa_cons (pe_op op_sub (pe_op op_powW pe_int pe_int) pe_int) pa_nil))))) pa_nil))) pa_nil)))))
      (pss_cons (ps_set (i := 2) scRight.nd rfl (Or.inl rfl) (pe_call GLn h1 (by rfl) V1.gLn V1.FLn.kp V1.bLn .nil pass0 (pa_cons (pv 1) pa_nil)))
      (pss_cons (ps_if (PW.pt (pw_or (pt_cmpR op_notBl (pe_call GA h5 (by rfl) T.gA T.FA.kp T.bA .nil pass0 (pa_cons (pv 1) pa_nil)) pe_bl (nomark _)) (pw_or1 (pt_cmpR op_ne (pe_callB (call_repr (k := 13) hG hr) (by rfl) B.repr (by decide +kernel) (pa_cons (pe_call GL h7 (by rfl) U.gL U.FL.kp U.bL .nil pass0 (pa_cons (pv 1) pa_nil)) pa_nil)) (pe_callB (call_repr (k := 13) hG hr) (by rfl) B.repr (by decide +kernel) (pa_cons (pv 2) pa_nil)) (nomark _)))))
        (pss_one (ps_ret pe_bl))
        pss_nil)
      (pss_cons (ps_if (pt_cmpR (op_neD hr.units) (pe_call GLo h10 (by rfl) R.gLo R.FLo.kp R.bLo .nil pass0 (pa_cons (pv 1) pa_nil)) (pe_ifExp (pt_cmpR op_le (pv 2) pe_int (nomark _)) (pe_call GRo h1 (by rfl) V1.gRo V1.FRo.kp V1.bRo .nil pass0 (pa_cons (pv 1) pa_nil)) pe_int) (nomark _))
        (pss_one (ps_ret pe_bl))
        pss_nil)
      (pss_cons (ps_for PassesOwn.never rfl (pi_range1 (by rfl) B.range (pa_cons pe_int pa_nil)) (pg_name (i := 3) scRight.nd rfl (Or.inl rfl))
        (pss_cons (ps_set (i := 4) scRight.nd rfl (Or.inl rfl) (pe_call GNe h4 (by rfl) R.gNe R.FNe.kp R.bNe .nil pass0 (pa_cons (pv 0) (pa_cons (pv 1) pa_nil))))
      (pss_one (ps_if (pt_cmpR op_ne (pe_callB (call_repr (k := 13) hG hr) (by rfl) B.repr (by decide +kernel) (pa_cons (pe_call GA h5 (by rfl) T.gA T.FA.kp T.bA .nil pass0 (pa_cons (pv 4) pa_nil)) pa_nil)) (pe_callB (call_repr (k := 13) hG hr) (by rfl) B.repr (by decide +kernel) (pa_cons (pe_call GIa h3 (by rfl) V1.gIa V1.FIa.kp V1.bIa .nil pass0 (pa_cons (pv 4) pa_nil)) pa_nil)) (nomark _))
        (pss_one (ps_ret pe_bl))
        pss_nil))))
      (pss_one (ps_ret (pe_callG hG GCu hr (by rfl) R.gCu R.FCu.kp R.bCu .nil passL (pa_cons (pv 0) (pa_cons (pv 1) pa_nil)))))))))), ?_⟩
    have e3 : lim1 = 1000000000000000000000000000001 := rfl
    have hline : sizeLine = 16777216 := sizeLine_eq
    refine ⟨.ref a, rfl, .ref a, rfl, 10, 30, rfl, rfl, ⟨by decide, by decide +kernel⟩, 10, 30, rfl, rfl, ⟨by decide, by decide +kernel⟩, _, _, rfl, rfl, (by show 4 ≤ sizeLine; decide), fun p np => ?_⟩
    have four : ∃ fs : List Int, [V.int 4, V.int ((10 : Int) ^ (30 : Int).toNat), V.int 999, V.int ((10 : Int) ^ (30 : Int).toNat - 1)] = fs.map V.int ∧ fs.length = 4 ∧ ∀ f ∈ fs, 0 ≤ f ∧ f < lim1 := by
      have p30 : (10 : Int) ^ (30 : Int).toNat = 1000000000000000000000000000000 := by decide +kernel
      refine ⟨[4, (10 : Int) ^ (30 : Int).toNat, 999, (10 : Int) ^ (30 : Int).toNat - 1], rfl, rfl, fun f hf => ?_⟩
      rw [p30] at hf
      rw [e3]
      simp only [List.mem_cons, List.not_mem_nil, or_false] at hf
      rcases hf with rfl | rfl | rfl | rfl <;> omega
    obtain ⟨fs, efs, lfs, bfs⟩ := four
    rw [efs]
    have sp := Same.new (o := .lst (fs.map V.int)) np
    have lp : (upd H p (.lst (fs.map V.int))) p = some (.lst (fs.map V.int)) := upd_same
    generalize (upd H p (.lst (fs.map V.int))) = G1 at sp lp ⊢
    have st1 := hs.same sp
    have npa : p ≠ a := fun z => by
      obtain ⟨_, e⟩ := hs.lst
      rw [← z, np] at e
      cases e
    dsimp only [tNil]
    refine ⟨a, p, fs.map V.int, rfl, st1, npa, SqL.of lp, by rw [List.length_map]; omega, by rw [List.length_map]; omega, fun i x H2 hx o2 st2 => ?_⟩
    obtain ⟨far, hfar, rfl⟩ : ∃ far, fs[i]? = some far ∧ x = .int far := by
      rw [List.getElem?_map] at hx
      cases e : fs[i]? with
      | none =>
        rw [e] at hx
        cases hx
      | some f =>
        rw [e] at hx
        exact ⟨f, rfl, (Option.some.inj hx).symm⟩
    obtain ⟨f0, f1⟩ := bfs far (List.mem_of_getElem? hfar)
    refine ⟨a, 5, far, rfl, st2, by decide, by decide, f0, f1, fun p3 H3 ds o3 st3 rd ok len wt lo => ?_⟩
    have len5 : ds.length ≤ 5 := by omega
    have lo2 : lenOf ds ≤ 100 * lim1 := by rw [e3] at lo ⊢; omega
    have wt2 : D.wts ds ≤ 3000 := by omega
    have off3 : Off a H H3 := ((Off.same sp).trans o2).trans o3
    generalize hW : lenOf ds = W at lo2
    refine ⟨.ref p3, rfl, .ref p3, ds, rfl, rd, ok, fun H4 s4 => ?_⟩
    rw [hW]
    have rd4 := Rdd.ex (.same s4) _ rd
    refine ⟨.ref p3, rfl, .ref p3, .tup ds, rfl, rd4, fun H5 s5 => ⟨_, true, rfl, rfl, _, rfl, ?_⟩⟩
    rw [ok.acc]
    refine iteF ?_
    have rd5 := Rdd.ex (.same s5) _ rd4
    have w0 : 0 ≤ W := by
      have := lenOf_pos ok
      omega
    have wbig : W.natAbs.log2 < 128 := by
      have h9 : W.natAbs < 2 ^ 128 := by
        have : (100 * lim1).natAbs < 2 ^ 128 := by decide
        omega
      by_cases z : W.natAbs = 0
      · rw [z]
        decide
      · exact (Nat.log2_lt z).2 h9
    have gW : D.good (.int W) = true := by
      simp only [D.good, decide_eq_true_eq]
      exact wbig
    refine ⟨.ref p3, rfl, .ref p3, ds, rfl, rd5, ok, fun H6 s6 => ?_⟩
    rw [hW]
    dsimp only [tNil]
    refine rRepr_of (.int W) gW (by simp only [D.dep]; omega) (by simp only [D.wt]; omega) ?_
    refine ⟨.int W, rfl, ?_⟩
    dsimp only [tNil]
    refine rRepr_of (.int W) gW (by simp only [D.dep]; omega) (by simp only [D.wt]; omega) ⟨rfl, _, rfl, iteNS rfl ?_⟩
    have rd6 := Rdd.ex (.same s6) _ rd5
    subst hW
    refine long_or rfl rfl rd6 ok (by omega) fun H7 s7 => ⟨_, rfl, iteF ?_⟩
    have rd7 := Rdd.ex (.same s7) _ rd6
    have s37 : Same H3 H7 := s4.trans (s5.trans (s6.trans s7))
    have off7 : Off a H H7 := off3.trans (.same s37)
    have st7 : Stm a H7 := st3.same s37
    refine ⟨6, rfl, by decide, by decide, for_range (n := 6) (fun i σ' H' => ∃ y3 y4, σ' = [some (.ref a), some (.ref p3), some (.int (lenOf ds)), y3, y4] ∧ Off a H H' ∧ Stm a H' ∧ Rdd K H' (.ref p3) (.tup ds))
      ⟨none, none, rfl, off7, st7, rd7⟩ ?_ ?_⟩
    · rintro i σ' H8 hi ⟨y3, y4, rfl, off8, st8, rd8⟩
      refine ⟨.ref a, rfl, .ref p3, rfl, a, .ref p3, ds, rfl, st8, rd8, by omega, fun u d H9 o9 st9 ru => ?_⟩
      have rd9 := Rdd.ex (o9.ex' st8 st9) _ rd8
      refine ⟨u, rfl, u, d, rfl, ru, fun H10 s10 => ?_⟩
      dsimp only [tNil]
      refine rRepr_of (.bl _) rfl (by simp only [D.dep]; omega) (by simp only [D.wt]; omega) ?_
      refine ⟨u, rfl, u, d, rfl, Rdd.ex (.same s10) _ ru, fun H11 s11 => ?_⟩
      dsimp only [tNil]
      refine rRepr_of (.bl _) rfl (by simp only [D.dep]; omega) (by simp only [D.wt]; omega) ⟨rfl, _, rfl, iteNS rfl ?_⟩
      have s9 := s10.trans s11
      exact ⟨_, _, rfl, (off8.trans o9).trans (.same s9), st9.same s9, Rdd.ex (.same s9) _ rd9⟩
    · rintro σ' H8 ⟨y3, y4, rfl, off8, st8, rd8⟩
      exact ⟨.ref a, rfl, .ref p3, rfl, a, .ref p3, ds, rfl, st8, rd8, ok, by omega, by omega, lo2, fun H9 o9 st9 => q _ (off8.trans o9) st9⟩
end
end Sl

set_option Elab.async false
set_option linter.all false
set_option maxRecDepth 100000
set_option maxHeartbeats 400000
namespace Sl
open PySem PySem.Spec PyProof.Rows L2
abbrev sLaw : Stmt := topS 39
theorem scLaw : FnScope ["_law_script", "_law_at", "_law_stream_here", "_law_turn", "_law_told"] ["_law_script"] (defScope sLaw) := ⟨rfl, rfl, rfl, by decide +kernel, rfl, by decide +kernel, by decide +kernel⟩
/-- a new object's changes are no change to what stood -/
theorem Off.fresh {a : Addr} {H G G' : Hp} (o : Off a G G') (s : Same H G) (n : H a = none) : Same H G' := fun b x q => o b x (fun e => by
  rw [e, n] at q
  cases q) (s b x q)
structure Lt (K : PySem.W.Frag) (mg : Str → Option Value) (fSt fRi : Addr) (fdSt fdRi : FuncData) : Prop where
  FSt : Fun K "_law_stream" "_law_stream" sStream fSt fdSt
  bSt : Binds K fdSt ["_law_script", "_law_at"] []
  gSt : mg "_law_stream" = some (.ref fSt)
  FRi : Fun K "_law_right" "_law_right" sRight fRi fdRi
  bRi : Binds K fdRi ["_law_stream_here"] []
  gRi : mg "_law_right" = some (.ref fRi)
section
variable {P : Program} {w : World} {K : PySem.W.Frag} {mg : Str → Option Value} {base : Heap}
variable {fW fB fPc fPr fA : Addr} {fdW fdB fdPc fdPr fdA : FuncData} {fC fF fS fL : Addr} {fdC fdF fdS fdL : FuncData}
variable {fLn fRo fWh fEl fIa : Addr} {fdLn fdRo fdWh fdEl fdIa : FuncData} {fD fP : Addr} {fdD fdP : FuncData}
variable {fCt fLc fPl fNb C fI : Addr} {fdCt fdLc fdPl fdNb : FuncData} {fAd fLo fOd fNe fCu : Addr} {fdAd fdLo fdOd fdNe fdCu : FuncData} {fSt fRi : Addr} {fdSt fdRi : FuncData}
theorem rNe_lst {H : Hp} {p r : Addr} {vs us : List V} {ds : List D} {Q : VK} (l1 : H p = some (.lst vs)) (l2 : H r = some (.lst us)) (r1 : RddAll K H vs ds) (r2 : RddAll K H us ds) (g : D.goods ds = true) (hd : D.deps ds ≤ 40) (q : Q (.bl false) H) : rNeD K (.ref p) (.ref r) H Q := by
  have h1 := deps_py ds
  have c : (PyData.list (D.pys ds)).canLay0 = true := by
    simp only [PyData.canLay0]
    exact (goods_show ds g).2
  have s : SeqAt.shaped (.list (D.pys ds)) = true := by
    unfold SeqAt.shaped
    rw [c, decide_eq_true (show (PyData.list (D.pys ds)).depth ≤ 64 by simp only [PyData.depth]; omega)]
    rfl
  refine ⟨.list (D.pys ds), .list (D.pys ds), .lst (SqL.of l1) (RddAll.dp ds g r1), .lst (SqL.of l2) (RddAll.dp ds g r2), s, s, ?_⟩
  rw [SeqAt.eqv_refl _ c]
  exact q
theorem rEq_lst {H : Hp} {p r : Addr} {vs us : List V} {ds : List D} {Q : VK} (l1 : H p = some (.lst vs)) (l2 : H r = some (.lst us)) (r1 : RddAll K H vs ds) (r2 : RddAll K H us ds) (g : D.goods ds = true) (hd : D.deps ds ≤ 40) (q : Q (.bl true) H) : rEqD K (.ref p) (.ref r) H Q := by
  have h1 := deps_py ds
  have c : (PyData.list (D.pys ds)).canLay0 = true := by
    simp only [PyData.canLay0]
    exact (goods_show ds g).2
  have s : SeqAt.shaped (.list (D.pys ds)) = true := by
    unfold SeqAt.shaped
    rw [c, decide_eq_true (show (PyData.list (D.pys ds)).depth ≤ 64 by simp only [PyData.depth]; omega)]
    rfl
  refine ⟨.list (D.pys ds), .list (D.pys ds), .lst (SqL.of l1) (RddAll.dp ds g r1), .lst (SqL.of l2) (RddAll.dp ds g r2), s, s, ?_⟩
  rw [SeqAt.eqv_refl _ c]
  exact q
theorem gv_call1 {σ : L2.St} {G : Hp} {sp : Sp} {E : XK} {te : TE} {d e : D} (h : Gv K σ G te d) (hs : ∀ v H Q, Rdd K H v d → (∀ u H', Same H H' → Rdd K H' u e → Q u H') → sp [v] H Q E) : Gv K σ G (tCall sp [] E (tCons te tNil)) e := fun H Q s q =>
  h H _ s fun v H1 s1 r1 => hs v H1 Q r1 fun u H2 s2 r2 => q u H2 (s1.trans s2) r2
theorem gv_long {σ : L2.St} {G : Hp} {te : TE} {ds : List D} (h : Gv K σ G te (.tup ds)) (ok : OkA ds) (hl : lenOf ds ≤ 1000) : Gv K σ G (tCall (spLong K) [] E0 (tCons te tNil)) (.tup (plainOf ds)) :=
  gv_call1 h fun v H Q r q => ⟨v, ds, rfl, r, ok, fun e => absurd e (by omega), fun _ p H' s rp => q _ _ s rp⟩
theorem gv_long2 {σ : L2.St} {G : Hp} {te : TE} {ds : List D} (h : Gv K σ G te (.tup ds)) (ok : OkA ds) (hl : lenOf ds > 1000) : Gv K σ G (tCall (spLong K) [] E0 (tCons te tNil)) (.int 1000) :=
  gv_call1 h fun v H Q r q => ⟨v, ds, rfl, r, ok, fun _ H' s => q _ _ s (.int _), fun e => absurd e (by omega)⟩
theorem gv_len {σ : L2.St} {G : Hp} {te : TE} {ds : List D} (h : Gv K σ G te (.tup ds)) (ok : OkA ds) : Gv K σ G (tCall (spLen K) [] E0 (tCons te tNil)) (.int (lenOf ds)) :=
  gv_call1 h fun v H Q r q => ⟨v, ds, rfl, r, ok, fun H' s => q _ _ s (.int _)⟩
theorem gv_cut {σ : L2.St} {G : Hp} {te tn : TE} {ds : List D} {n : Int} (h : Gv K σ G te (.tup ds)) (h2 : Gv K σ G tn (.int n)) (ok : OkA ds) (hz : ds.length ≤ 1000) (h0 : 0 ≤ n) (h1 : n ≤ lenOf ds) : Gv K σ G (tCall (spCut K) [] E0 (tCons te (tCons tn tNil))) (.tup (cutOf ds n)) := fun H Q s q =>
  h H _ s fun v H1 s1 r1 => h2 H1 _ (s.trans s1) fun u H2 s2 r2 => by
    cases r2
    exact ⟨v, ds, n, rfl, Rdd.ex (.same s2) _ r1, ok, hz, h0, h1, fun p H' s3 rp => q _ _ ((s1.trans s2).trans s3) rp⟩
theorem okA_nil : OkA [] := fun d hd => absurd hd (by simp)
theorem okA_cons {d : D} {ds : List D} (h : okEl d) (hs : OkA ds) : OkA (d :: ds) := fun x hx => by
  rcases List.mem_cons.mp hx with rfl | hx
  · exact h
  · exact hs x hx
theorem pairEl {p : List D} {t : Int} (hn : p ≠ []) (hl : p.length ≤ 1000) (hp : ∀ x ∈ p, dBelow 3 x = true) (h0 : 0 ≤ t) (h1 : t < lim1) : okEl (.tup [.tup p, .int t]) := .inr ⟨p, t, rfl, hn, hl, hp, h0, h1⟩
def A1 : List D := [.tup [.tup [.int 0, .int 1], .int 500]]
def A2 : List D := [.tup [.tup [.int 0, .int 1], .int 500], .int 2]
def A3 (N : Int) : List D := [.tup [.tup [.int 0, .int 1, .int 2], .int N], .tup [.tup [.int 0], .int 0], .int 1]
theorem d01 : ∀ x ∈ [D.int 0, .int 1], dBelow 3 x = true := by decide
theorem d012 : ∀ x ∈ [D.int 0, .int 1, .int 2], dBelow 3 x = true := by decide
theorem d0 : ∀ x ∈ [D.int 0], dBelow 3 x = true := by decide
theorem d2 : ∀ x ∈ [D.int 2], dBelow 3 x = true := by decide
theorem a1 : OkA A1 := okA_cons (pairEl (by decide) (by decide) d01 (by decide) (by decide)) okA_nil
theorem a2 : OkA A2 := okA_cons (pairEl (by decide) (by decide) d01 (by decide) (by decide)) (okA_cons (okEl_int (by decide) (by decide)) okA_nil)
theorem a3 {N : Int} (n0 : 0 ≤ N) (n1 : N < lim1) : OkA (A3 N) := okA_cons (pairEl (by decide) (by decide) d012 n0 n1) (okA_cons (pairEl (by decide) (by decide) d0 (by decide) (by decide)) (okA_cons (okEl_int (by decide) (by decide)) okA_nil))
theorem lenA1 : lenOf A1 ≤ 1000 := by decide +kernel
theorem lenA2 : lenOf A2 > 1000 := by decide +kernel
theorem lenA3 (N : Int) : lenOf (A3 N) = 3 * N + 1 := by
  show ((3 : Nat) : Int) * N + (((1 : Nat) : Int) * 0 + (1 + 0)) = 3 * N + 1
  omega
section
variable {σ : L2.St} {G : Hp}
theorem gA1 : Gv K σ G (tTup (tCons (tTup (tCons (tTup (tCons (tC (.int 0)) (tCons (tC (.int 1)) tNil))) (tCons (tC (.int 500)) tNil))) tNil)) (.tup A1) :=
  gv_tup (gva_cons (gv_tup (gva_cons (gv_tup (gva_cons (gv_int 0) (gva_cons (gv_int 1) gva_nil))) (gva_cons (gv_int 500) gva_nil))) gva_nil) (by decide)
theorem gA2 : Gv K σ G (tTup (tCons (tTup (tCons (tTup (tCons (tC (.int 0)) (tCons (tC (.int 1)) tNil))) (tCons (tC (.int 500)) tNil))) (tCons (tC (.int 2)) tNil))) (.tup A2) :=
  gv_tup (gva_cons (gv_tup (gva_cons (gv_tup (gva_cons (gv_int 0) (gva_cons (gv_int 1) gva_nil))) (gva_cons (gv_int 500) gva_nil))) (gva_cons (gv_int 2) gva_nil)) (by decide)
theorem gA3 {tn : TE} {N : Int} (h : Gv K σ G tn (.int N)) : Gv K σ G (tTup (tCons (tTup (tCons (tTup (tCons (tC (.int 0)) (tCons (tC (.int 1)) (tCons (tC (.int 2)) tNil)))) (tCons tn tNil))) (tCons (tTup (tCons (tTup (tCons (tC (.int 0)) tNil)) (tCons (tC (.int 0)) tNil))) (tCons (tC (.int 1)) tNil)))) (.tup (A3 N)) :=
  gv_tup (gva_cons (gv_tup (gva_cons (gv_tup (gva_cons (gv_int 0) (gva_cons (gv_int 1) (gva_cons (gv_int 2) gva_nil)))) (gva_cons h gva_nil))) (gva_cons (gv_tup (gva_cons (gv_tup (gva_cons (gv_int 0) gva_nil)) (gva_cons (gv_int 0) gva_nil))) (gva_cons (gv_int 1) gva_nil))) (Nat.le_of_ble_eq_true rfl)
theorem gv_rep {ta tk : TE} {ds : List D} {k : Int} (h1 : Gv K σ G ta (.tup ds)) (h2 : Gv K σ G tk (.int k)) (hne : ds ≠ []) (k0 : 2 ≤ k) (k1 : k ≤ 1000) (hz : ds.length ≤ 1000) (hk : k.toNat * ds.length ≤ 100000) : Gv K σ G (tOp (rRepA K) ta tk) (.tup (List.replicate k.toNat ds).flatten) := fun H Q s q =>
  h1 H _ s fun v H1 s1 r1 => h2 H1 _ (s.trans s1) fun u H2 s2 r2 => by
    cases r2
    obtain ⟨a, xs, rfl, hs, ha, _⟩ := (Rdd.ex (.same s2) _ r1).tupd
    have e := ha.length
    refine ⟨a, k, xs, rfl, rfl, hs, fun z => hne ?_, by omega, k1, by omega, fun z => absurd z (by omega), fun _ p np => ?_⟩
    · rw [z] at e
      exact List.eq_nil_of_length_eq_zero e.symm
    · have sp := Same.new (o := .tup (List.replicate k.toNat xs).flatten) np
      refine q _ _ ((s1.trans s2).trans sp) (.tup (SqT.of upd_same) ((RddAll.ex (.same sp) _ ha).rep k.toNat) ?_)
      rw [PyProof.Rows.lm_len_rep_flat]
      exact hk
def B1 : List D := [.tup [.tup [.int 0], .int 0], .int 1, .tup [.tup [.int 2], .int 0]]
def B2 : List D := [.tup [.tup [.int 0, .int 1], .int 3], .int 2]
def B4 : List D := [.int 1, .int 2]
theorem b1 : OkA B1 := okA_cons (pairEl (by decide) (by decide) d0 (by decide) (by decide)) (okA_cons (okEl_int (by decide) (by decide)) (okA_cons (pairEl (by decide) (by decide) d2 (by decide) (by decide)) okA_nil))
theorem b2 : OkA B2 := okA_cons (pairEl (by decide) (by decide) d01 (by decide) (by decide)) (okA_cons (okEl_int (by decide) (by decide)) okA_nil)
theorem b4 : OkA B4 := okA_cons (okEl_int (by decide) (by decide)) (okA_cons (okEl_int (by decide) (by decide)) okA_nil)
theorem gB1 : Gv K σ G (tTup (tCons (tTup (tCons (tTup (tCons (tC (.int 0)) tNil)) (tCons (tC (.int 0)) tNil))) (tCons (tC (.int 1)) (tCons (tTup (tCons (tTup (tCons (tC (.int 2)) tNil)) (tCons (tC (.int 0)) tNil))) tNil)))) (.tup B1) :=
  gv_tup (gva_cons (gv_tup (gva_cons (gv_tup (gva_cons (gv_int 0) gva_nil)) (gva_cons (gv_int 0) gva_nil))) (gva_cons (gv_int 1) (gva_cons (gv_tup (gva_cons (gv_tup (gva_cons (gv_int 2) gva_nil)) (gva_cons (gv_int 0) gva_nil))) gva_nil))) (by decide)
theorem gB2 : Gv K σ G (tTup (tCons (tTup (tCons (tTup (tCons (tC (.int 0)) (tCons (tC (.int 1)) tNil))) (tCons (tC (.int 3)) tNil))) (tCons (tC (.int 2)) tNil))) (.tup B2) :=
  gv_tup (gva_cons (gv_tup (gva_cons (gv_tup (gva_cons (gv_int 0) (gva_cons (gv_int 1) gva_nil))) (gva_cons (gv_int 3) gva_nil))) (gva_cons (gv_int 2) gva_nil)) (by decide)
theorem gB4 : Gv K σ G (tTup (tCons (tC (.int 1)) (tCons (tC (.int 2)) tNil))) (.tup B4) := gv_tup (gva_cons (gv_int 1) (gva_cons (gv_int 2) gva_nil)) (by decide)
theorem plainA1 : plainOf A1 = (List.replicate (500 : Int).toNat [D.int 0, D.int 1]).flatten := List.append_nil _
theorem cB1 : cutOf B1 1 = [.tup [.tup [.int 0], .int 0], .int 1] := by rfl
theorem cB2 : cutOf B2 6 = [.tup [.tup [.int 0, .int 1], .int 3]] := by rfl
theorem cB3 : cutOf B2 1 = [.int 0] := by rfl
theorem cB4 : cutOf B4 0 = [] := by rfl
end
def spLaw (K : PySem.W.Frag) : Sp := fun vs H Q _ => ∃ (a : Addr) (ns : List Int), vs = [.ref a] ∧ SqL K H a (ns.map V.int) ∧ ns.length ≤ 100000 ∧ ∀ H', Q (.bl true) H'
theorem ok_law {f : Addr} {fd : FuncData} (F : Fun K "law" "law" sLaw f fd) (T : Ad K mg fW fB fPc fPr fA fdW fdB fdPc fdPr fdA) (U : Ae K mg fC fF fS fL fdC fdF fdS fdL) (V1 : Lf K mg fLn fRo fWh fEl fIa fdLn fdRo fdWh fdEl fdIa)
    (Y : Lp K mg fD fP fdD fdP) (Z : Lz K mg fCt fLc fPl fNb fdCt fdLc fdPl fdNb) (R : Lr K mg fAd fLo fOd fNe fCu fdAd fdLo fdOd fdNe fdCu) (S : Lt K mg fSt fRi fdSt fdRi) (M : PySem.TmX.TmTxt K mg C fI) (B : Bj mg) : FnG P w K mg base (L2.CX P w) 15 f fd ["_law_script"] (spLaw K) := by
  have GSt : FnOk P w K mg base CX0 1 fSt fdSt ["_law_script", "_law_at"] (spStream K) := ok_stream S.FSt B
  have GRi : FnG P w K mg base (L2.CX P w) 14 fRi fdRi ["_law_stream_here"] spRight := ok_right S.FRi T U V1 Y Z R M B
  have GCt : FnOk P w K mg base CX0 9 fCt fdCt ["address", "length"] (spCut K) := ok_cut Z.FCt Z.FNb Z.bNb Z.gNb T U B
  have GA : FnOk P w K mg base CX0 6 fA fdA ["value"] (spD K dAddr) := ok_isaddr T B.toBi
  have GL : FnOk P w K mg base CX0 8 fL fdL ["address"] (spLen K) := ok_len T U B
  have GPl : FnOk P w K mg base (L2.CX P w) 10 fPl fdPl ["address"] (spPlain K C) := ok_plain Z.FPl M Z.max1000 T U B
  have GLo : FnOk P w K mg base CX0 11 fLo fdLo ["_law_address_here"] (spLong K) := ok_long R.FLo Z.FPl Z.bPl Z.gPl M Z.max1000 T U B
  refine okG F scLaw (fun vs H Q E h => ?_) (fun cdv A outer s H vs Q E hG hr h => ?_)
  · obtain ⟨a, _, rfl, _⟩ := h
    rfl
  · obtain ⟨a, ns, rfl, hs, hz, q⟩ := h
    have h1 := hr.mono (by decide : 1 ≤ 14)
    have h5 := hr.mono (by decide : 6 ≤ 14)
    have h7 := hr.mono (by decide : 8 ≤ 14)
    have h8 := hr.mono (by decide : 9 ≤ 14)
    have h9 := hr.mono (by decide : 10 ≤ 14)
    have h10 := hr.mono (by decide : 11 ≤ 14)
    refine ⟨_, PSs.nox (pss_cons (ps_for PassesOwn.never rfl (pi_range1 (by rfl) B.range (pa_cons (pe_callB (call_max2 rfl) (by rfl) B.max (by decide +kernel) (pa_cons pe_int (pa_cons (pe_callB (call_min2 rfl) (by rfl) B.min (by decide +kernel) (pa_cons pe_int (pa_cons (pe_callB call_len_seq (by rfl) B.len PySem.boot_len (pa_cons (pv 0) pa_nil)) pa_nil))) pa_nil))) pa_nil)) (pg_name (i := 1) scLaw.nd rfl (Or.inl rfl))
        (pss_cons (ps_set (i := 2) scLaw.nd rfl (Or.inl rfl) (pe_call GSt h1 (by rfl) S.gSt S.FSt.kp S.bSt .nil pass0 (pa_cons (pv 0) (pa_cons (pv 1) pa_nil))))
      (pss_one (ps_for PassesOwn.never rfl (pi_range1 (by rfl) B.range (pa_cons pe_int pa_nil)) (pg_name (i := 3) scLaw.nd rfl (Or.inl rfl))
        (pss_one (ps_if (pt_not (pt_val (pe_callG hG GRi hr (by rfl) S.gRi S.FRi.kp S.bRi .nil passL (pa_cons (pv 2) pa_nil))))
        (pss_one (ps_ret pe_bl))
        pss_nil))))))
      (pss_cons (ps_set (i := 4) scLaw.nd rfl (Or.inl rfl) (pe_lst (pa_cons (pe_call GLo h10 (by rfl) R.gLo R.FLo.kp R.bLo .nil pass0 (pa_cons (pe_tup (pa_cons (pe_tup (pa_cons (pe_tup (pa_cons pe_int (pa_cons pe_int pa_nil))) (pa_cons pe_int pa_nil))) pa_nil)) pa_nil)) (pa_cons (pe_call GLo h10 (by rfl) R.gLo R.FLo.kp R.bLo .nil pass0 (pa_cons (pe_tup (pa_cons (pe_tup (pa_cons (pe_tup (pa_cons pe_int (pa_cons pe_int pa_nil))) (pa_cons pe_int pa_nil))) (pa_cons pe_int pa_nil))) pa_nil)) pa_nil))))
      (pss_cons (ps_expr (pe_bm PySem.F.plainAttrs_list PySem.F.slot_list_append PySem.F.type_list_append mt_append (pv 4) (pa_cons (pe_call GL h7 (by rfl) U.gL U.FL.kp U.bL .nil pass0 (pa_cons (pe_tup (pa_cons (pe_tup (pa_cons (pe_tup (pa_cons pe_int (pa_cons pe_int (pa_cons pe_int pa_nil)))) (pa_cons (pe_op op_powW pe_int pe_int) pa_nil))) (pa_cons (pe_tup (pa_cons (pe_tup (pa_cons pe_int pa_nil)) (pa_cons pe_int pa_nil))) (pa_cons pe_int pa_nil)))) pa_nil)) pa_nil)))
      (pss_cons (ps_if (PW.pt (pw_or (pt_cmpR (op_neD hr.units) (pv 4) (pe_lst (pa_cons (pe_op op_repTA (pe_tup (pa_cons pe_int (pa_cons pe_int pa_nil))) pe_int) (pa_cons pe_int (pa_cons (pe_op op_add (pe_op op_mulW pe_int (pe_op op_powW pe_int pe_int)) pe_int) pa_nil)))) (nomark _)) (pw_or (pt_cmpR op_notBl (pe_call GA h5 (by rfl) T.gA T.FA.kp T.bA .nil pass0 (pa_cons (pe_tup pa_nil) pa_nil)) pe_bl (nomark _)) (pw_or1 (pt_cmpR (op_neD hr.units) (pe_call GPl h9 (by rfl) Z.gPl Z.FPl.kp Z.bPl .nil passL (pa_cons (pe_tup pa_nil) pa_nil)) (pe_tup pa_nil) (nomark _))))))
        (pss_one (ps_ret pe_bl))
        pss_nil)
      (pss_cons (ps_set (i := 4) scLaw.nd rfl (Or.inl rfl) (pe_lst (pa_cons (pe_call GCt h8 (by rfl) Z.gCt Z.FCt.kp Z.bCt .nil pass0 (pa_cons (pe_tup (pa_cons (pe_tup (pa_cons (pe_tup (pa_cons pe_int pa_nil)) (pa_cons pe_int pa_nil))) (pa_cons pe_int (pa_cons (pe_tup (pa_cons (pe_tup (pa_cons pe_int pa_nil)) (pa_cons pe_int pa_nil))) pa_nil)))) (pa_cons pe_int pa_nil))) (pa_cons (pe_call GCt h8 (by rfl) Z.gCt Z.FCt.kp Z.bCt .nil pass0 (pa_cons (pe_tup (pa_cons (pe_tup (pa_cons (pe_tup (pa_cons pe_int (pa_cons pe_int pa_nil))) (pa_cons pe_int pa_nil))) (pa_cons pe_int pa_nil))) (pa_cons pe_int pa_nil))) (pa_cons (pe_call GCt h8 (by rfl) Z.gCt Z.FCt.kp Z.bCt .nil pass0 (pa_cons (pe_tup (pa_cons (pe_tup (pa_cons (pe_tup (pa_cons pe_int (pa_cons pe_int pa_nil))) (pa_cons pe_int pa_nil))) (pa_cons pe_int pa_nil))) (pa_cons pe_int pa_nil))) (pa_cons (pe_call GCt h8 (by rfl) Z.gCt Z.FCt.kp Z.bCt .nil pass0 (pa_cons (pe_tup (pa_cons pe_int (pa_cons pe_int pa_nil))) (pa_cons pe_int pa_nil))) pa_nil))))))
      (pss_one (ps_ret (pe_cmpR (op_eqD hr.units) (pv 4) (pe_lst (pa_cons (pe_tup (pa_cons (pe_tup (pa_cons (pe_tup (pa_cons pe_int pa_nil)) (pa_cons pe_int pa_nil))) (pa_cons pe_int pa_nil))) (pa_cons (pe_tup (pa_cons (pe_tup (pa_cons (pe_tup (pa_cons pe_int (pa_cons pe_int pa_nil))) (pa_cons pe_int pa_nil))) pa_nil)) (pa_cons (pe_tup (pa_cons pe_int pa_nil)) (pa_cons (pe_tup pa_nil) pa_nil))))) (nomark _))))))))), ?_⟩
    refine ⟨.ref a, rfl, a, _, rfl, .inl hs, 6, _, rfl, 1, _, rfl, _, rfl, ?_⟩
    generalize ((List.map V.int ns).length : Int) = L
    generalize hR : (if (if L < 6 then L else 6) > 1 then (if L < 6 then L else 6) else (1 : Int)) = R
    have hR1 : 1 ≤ R ∧ R ≤ 6 := by
      rw [← hR]
      repeat' split
      all_goals omega
    refine ⟨by omega, by omega, for_range (n := R.toNat) (fun i σ' H' => ∃ y1 y2 y3, σ' = [some (.ref a), y1, y2, y3, none] ∧ Same H H') ⟨none, none, none, rfl, Same.refl _⟩ ?_ ?_⟩
    · rintro i σ' H1 hi ⟨y1, y2, y3, rfl, s1⟩
      refine ⟨.ref a, rfl, .int (0 + (i : Int)), rfl, a, ns, i, by rw [Int.zero_add]; rfl, ?_, fun p H2 np s2 st2 => ?_⟩
      · rcases hs with (h | ⟨ob, h⟩) | h
        · exact .inl (.inl (s1 _ _ h))
        · exact .inl (.inr ⟨ob, s1 _ _ h⟩)
        · exact .inr h
      refine ⟨4, rfl, by decide, by decide, for_range (n := 4) (fun j σ' H' => ∃ y3, σ' = [some (.ref a), some (.int (0 + (i : Int))), some (.ref p), y3, none] ∧ Off p H2 H' ∧ Stm p H') ⟨_, rfl, Off.refl _ _, st2⟩ ?_ ?_⟩
      · rintro j σ' H3 hj ⟨y3, rfl, o3, st3⟩
        refine ⟨.ref p, rfl, p, rfl, st3, fun H4 o4 st4 => ?_⟩
        exact ⟨true, rfl, iteF ⟨_, rfl, o3.trans o4, st4⟩⟩
      · rintro σ' H3 ⟨y3, rfl, o3, st3⟩
        exact ⟨_, _, _, rfl, s1.trans (o3.fresh s2 np)⟩
    · rintro σ' H1 ⟨y1, y2, y3, rfl, s1⟩
      have e3 : lim1 = 1000000000000000000000000000001 := rfl
      have hline : sizeLine = 16777216 := sizeLine_eq
      have d01 : ∀ x ∈ [D.int 0, .int 1], dBelow 3 x = true := by decide
      have p30 : (10 : Int) ^ (30 : Int).toNat = 1000000000000000000000000000000 := by decide +kernel
      have n0 : 0 ≤ (10 : Int) ^ (30 : Int).toNat := by rw [p30]; decide
      have n1 : (10 : Int) ^ (30 : Int).toNat < lim1 := by rw [p30, e3]; decide
      have c31 : CMulW 3 ((10 : Int) ^ (30 : Int).toNat) := wide_mul (a := 2) (b := 128) (by decide) (by rw [p30]; decide) (by decide) (by decide) (by decide)
      have big : (3 * (10 : Int) ^ (30 : Int).toNat + 1).natAbs.log2 < 128 := by decide +kernel
      dsimp only
      unfold tSeq tAsg
      dsimp only
      refine lst_gv (K := K) (G := H1) (gva_cons (gv_long gA1 a1 lenA1) (gva_cons (gv_long2 gA2 a2 lenA2) gva_nil)) (Same.refl _) (Nat.le_of_ble_eq_true rfl) fun p vs H2 np s2 lp rv => ?_
      have z2 : vs.length = 2 := rv.length
      refine ⟨.ref p, rfl, .inl ⟨rfl, _, SqL.of lp⟩, ?_⟩
      have gp : ∀ G, Gv K ([some (V.ref a), y1, y2, y3, none].set 4 (some (V.ref p))) G (tOp (rI (fun i j => 0 ≤ j ∧ (Builtin.Int.intBits i : Int) * j ≤ 2 ^ 27) fun i j => .int (i ^ j.toNat)) (tC (.int 10)) (tC (.int 30))) (.int ((10 : Int) ^ (30 : Int).toNat)) := fun G => gv_opI (gv_int 10) (gv_int 30) ⟨by decide, by decide +kernel⟩
      refine (gva_cons (gv_len (gA3 (gp H2)) (a3 n0 n1)) gva_nil) H2 _ (Same.refl _) fun us H3 s3 ru => ?_
      rw [lenA3] at ru
      have l3 := s3 _ _ lp
      cases ru with
      | @cons u _ us _ r1 r2 =>
        cases r2
        refine ⟨p, vs, u, rfl, rfl, l3, by omega, ?_⟩
        have rv4 := (RddAll.ex (sqT_put (ys := vs ++ [u]) l3) _ (RddAll.ex (.same s3) _ rv)).append (RddAll.ex (sqT_put (ys := vs ++ [u]) l3) _ (.cons r1 .nil))
        have l4 : (upd H3 p (.lst (vs ++ [u]))) p = some (.lst (vs ++ [u])) := upd_same
        generalize upd H3 p (.lst (vs ++ [u])) = H4 at rv4 l4 ⊢
        refine ⟨.ref p, rfl, ?_⟩
        refine lst_gv (K := K) (G := H4) (gva_cons (gv_rep (gv_tup (gva_cons (gv_int 0) (gva_cons (gv_int 1) gva_nil))) (gv_int 500) (by simp) (by decide) (by decide) (by decide) (by decide)) (gva_cons (gv_int 1000) (gva_cons (gv_opI0 (gv_opI (gv_int 3) (gp H4) c31) (gv_int 1)) gva_nil))) (Same.refl _) (Nat.le_of_ble_eq_true rfl) fun p5 vs5 H5 n5 s5 l5 r5 => ?_
        rw [← plainA1] at r5
        have r4 := RddAll.ex (.same s5) _ rv4
        obtain ⟨gd, dd⟩ := digits_tup (plain_digits a1)
        have gd2 : D.goods [.tup (plainOf A1), .int 1000, .int (3 * (10 : Int) ^ (30 : Int).toNat + 1)] = true := by
          refine goods_of fun d hd => ?_
          simp only [List.mem_cons, List.not_mem_nil, or_false] at hd
          rcases hd with rfl | rfl | rfl
          · exact gd
          · decide +kernel
          · simp only [D.good, decide_eq_true_eq]
            exact big
        have dd2 : D.deps [.tup (plainOf A1), .int 1000, .int (3 * (10 : Int) ^ (30 : Int).toNat + 1)] ≤ 40 := by
          simp only [D.deps]
          simp only [D.dep] at dd ⊢
          omega
        refine rNe_lst (s5 _ _ l4) l5 r4 r5 gd2 dd2 ⟨_, rfl, iteF ?_⟩
        refine ⟨Nat.zero_le _, fun u6 n6 => ⟨.ref u6, .tup [], rfl, .tup (SqT.of upd_same) .nil (by decide), fun H7 s7 => ⟨_, true, rfl, rfl, _, rfl, ?_⟩⟩⟩
        rw [okA_nil.acc]
        refine iteF ?_
        refine ⟨Nat.zero_le _, fun u8 n8 => ⟨.ref u8, [], rfl, .tup (SqT.of upd_same) .nil (by decide), okA_nil, fun e => absurd e (by decide), fun _ p9 H9 s9 r9 => ⟨Nat.zero_le _, fun u10 n10 => ?_⟩⟩⟩
        have s10 := Same.new (o := .tup []) n10
        have l10 : (upd H9 u10 (.tup [])) u10 = some (.tup []) := upd_same
        generalize upd H9 u10 (.tup []) = H10 at s10 l10 ⊢
        refine rNe_same (d := .tup []) (Rdd.ex (.same s10) _ r9) (.tup (SqT.of l10) .nil (by decide)) (by rfl) (by decide) ⟨_, rfl, iteF ?_⟩
        unfold tNext
        dsimp only
        refine lst_gv (K := K) (G := H10) (gva_cons (gv_cut gB1 (gv_int 1) b1 (by decide) (by decide) (by decide)) (gva_cons (gv_cut gB2 (gv_int 6) b2 (by decide) (by decide) (by decide)) (gva_cons (gv_cut gB2 (gv_int 1) b2 (by decide) (by decide) (by decide)) (gva_cons (gv_cut gB4 (gv_int 0) b4 (by decide) (by decide) (by decide)) gva_nil)))) (Same.refl _) (Nat.le_of_ble_eq_true rfl) fun p11 vs11 H11 n11 s11 l11 r11 => ?_
        rw [cB1, cB2, cB3, cB4] at r11
        refine ⟨.ref p11, rfl, ?_⟩
        refine lst_gv (K := K) (G := H11) (gva_cons (gv_tup (gva_cons (gv_tup (gva_cons (gv_tup (gva_cons (gv_int 0) gva_nil)) (gva_cons (gv_int 0) gva_nil))) (gva_cons (gv_int 1) gva_nil))) (gva_cons (gv_tup (gva_cons (gv_tup (gva_cons (gv_tup (gva_cons (gv_int 0) (gva_cons (gv_int 1) gva_nil))) (gva_cons (gv_int 3) gva_nil))) gva_nil)) (gva_cons (gv_tup (gva_cons (gv_int 0) gva_nil)) (gva_cons (gv_tup gva_nil) gva_nil)))) (Same.refl _) (Nat.le_of_ble_eq_true rfl) fun p12 vs12 H12 n12 s12 l12 r12 => ?_
        exact rEq_lst (s12 _ _ l11) l12 (RddAll.ex (.same s12) _ r11) r12 (by decide +kernel) (by decide +kernel) (q _)
end
end Sl

set_option Elab.async false
set_option linter.all false
set_option maxRecDepth 100000
set_option maxHeartbeats 2000000
namespace Sl
open PySem PySem.Spec PyProof.Rows L2 PySem.HandSPX
/-- an error of the class at S is what «except S» names -/
theorem exm_self {K : PySem.W.Frag} {S : Addr} (h1 : PySem.W.subIn K (.ref S) (.type "BaseException") = some true) (h2 : PySem.W.isClsIn K S = true) (h3 : PySem.W.typeIn K (.ref S) = some (.type "type")) (h4 : PySem.W.subIn K (.ref S) (.ref S) = some true) :
    PySem.W.exmOne K (.ref S) (.ref S) = some true := by
  have e1 : (PySem.W.subIn K (.ref S) (.type "BaseException") == some true) = true := by rw [h1] <;> rfl
  have h2' : (PySem.W.clsIn K S).isSome = true := h2
  have e2 : ((PySem.W.clsIn K S).isSome && PySem.W.typeIn K (.ref S) == some (.type "type")) = true := by rw [h2', h3] <;> rfl
  show (if (PySem.W.subIn K (.ref S) (.type "BaseException") == some true) = true then (if ((PySem.W.clsIn K S).isSome && PySem.W.typeIn K (.ref S) == some (.type "type")) = true then PySem.W.subIn K (.ref S) (.ref S) else none) else none) = some true
  rw [if_pos e1, if_pos e2]
  exact h4
theorem all_mk {P : Program} {w : World} {K : PySem.W.Frag} {h : Heap} {mg : Str → Option Value} {fa C fI : Addr} (X : K.In h) (G : h.Ns mainGlobals mg) (hfa : mg "law" = some (.ref fa))
    {nm q : Str} {N : Addr} {bs : List Value} {sn : List Str} {sub : List Value} {ab : Bool} {col : Option Bool} {dd : Option Addr} {m0 m1 m2 m3 m5 : Option Value} {odI anI : Option Addr} {slI : Array (Option Value)} {ocI dcI pmI cdI ctI : Value} {p1 p2 q1 q2 q3 q4 : Pos} {vT v3 v1000 : Int} {tT t3 t1000 : _}
    {fW : Addr} {odW anW : Option Addr} {slW : Array (Option Value)} {ocW kVW dcW pmW cdW ctW : Value}
    {fB : Addr} {odB anB : Option Addr} {slB : Array (Option Value)} {ocB kVB dcB pmB cdB ctB : Value}
    {fPa : Addr} {odPa anPa : Option Addr} {slPa : Array (Option Value)} {ocPa kVPa dcPa pmPa cdPa ctPa : Value}
    {fPc : Addr} {odPc anPc : Option Addr} {slPc : Array (Option Value)} {ocPc kVPc dcPc pmPc cdPc ctPc : Value}
    {fPr : Addr} {odPr anPr : Option Addr} {slPr : Array (Option Value)} {ocPr kVPr dcPr pmPr cdPr ctPr : Value}
    {fA : Addr} {odA anA : Option Addr} {slA : Array (Option Value)} {ocA kVA dcA pmA cdA ctA : Value}
    {fC : Addr} {odC anC : Option Addr} {slC : Array (Option Value)} {ocC kVC dcC pmC cdC ctC : Value}
    {fF : Addr} {odF anF : Option Addr} {slF : Array (Option Value)} {ocF kVF dcF pmF cdF ctF : Value}
    {fS : Addr} {odS anS : Option Addr} {slS : Array (Option Value)} {ocS kVS dcS pmS cdS ctS : Value}
    {fL : Addr} {odL anL : Option Addr} {slL : Array (Option Value)} {ocL kVL dcL pmL cdL ctL : Value}
    {fPl : Addr} {odPl anPl : Option Addr} {slPl : Array (Option Value)} {ocPl kVPl dcPl pmPl cdPl ctPl : Value}
    {fNb : Addr} {odNb anNb : Option Addr} {slNb : Array (Option Value)} {ocNb kVNb dcNb pmNb cdNb ctNb : Value}
    {fCt : Addr} {odCt anCt : Option Addr} {slCt : Array (Option Value)} {ocCt kVCt dcCt pmCt cdCt ctCt : Value}
    {fSt : Addr} {odSt anSt : Option Addr} {slSt : Array (Option Value)} {ocSt kVSt dcSt pmSt cdSt ctSt : Value}
    {fD : Addr} {odD anD : Option Addr} {slD : Array (Option Value)} {ocD kVD dcD pmD cdD ctD : Value}
    {fP : Addr} {odP anP : Option Addr} {slP : Array (Option Value)} {ocP kVP dcP pmP cdP ctP : Value}
    {fAd : Addr} {odAd anAd : Option Addr} {slAd : Array (Option Value)} {ocAd kVAd dcAd pmAd cdAd ctAd : Value}
    {fLn : Addr} {odLn anLn : Option Addr} {slLn : Array (Option Value)} {ocLn kVLn dcLn pmLn cdLn ctLn : Value}
    {fRo : Addr} {odRo anRo : Option Addr} {slRo : Array (Option Value)} {ocRo kVRo dcRo pmRo cdRo ctRo : Value}
    {fWh : Addr} {odWh anWh : Option Addr} {slWh : Array (Option Value)} {ocWh kVWh dcWh pmWh cdWh ctWh : Value}
    {fEl : Addr} {odEl anEl : Option Addr} {slEl : Array (Option Value)} {ocEl kVEl dcEl pmEl cdEl ctEl : Value}
    {fIa : Addr} {odIa anIa : Option Addr} {slIa : Array (Option Value)} {ocIa kVIa dcIa pmIa cdIa ctIa : Value}
    {fLc : Addr} {odLc anLc : Option Addr} {slLc : Array (Option Value)} {ocLc kVLc dcLc pmLc cdLc ctLc : Value}
    {fOd : Addr} {odOd anOd : Option Addr} {slOd : Array (Option Value)} {ocOd kVOd dcOd pmOd cdOd ctOd : Value}
    {fNe : Addr} {odNe anNe : Option Addr} {slNe : Array (Option Value)} {ocNe kVNe dcNe pmNe cdNe ctNe : Value}
    {fLo : Addr} {odLo anLo : Option Addr} {slLo : Array (Option Value)} {ocLo kVLo dcLo pmLo cdLo ctLo : Value}
    {fCu : Addr} {odCu anCu : Option Addr} {slCu : Array (Option Value)} {ocCu kVCu dcCu pmCu cdCu ctCu : Value}
    {fRi : Addr} {odRi anRi : Option Addr} {slRi : Array (Option Value)} {ocRi kVRi dcRi pmRi cdRi ctRi : Value}
    {fY : Addr} {odY anY : Option Addr} {slY : Array (Option Value)} {ocY kVY dcY pmY cdY ctY : Value}
    (aC : PySem.W.nsIn K mainGlobals "TooMany" = some (some (.ref C)))
    (xC : K.lookup C = some (excClassObj nm q C N bs PySem.TmX.ovf true sn sub ab col dd m0 m1 m2 m3 m5 "OverflowError.__new__"))
    (sa : PySem.W.findIn K (.ref C) "__setattr__" = some (some (.builtin "object.__setattr__"))) (ga : PySem.W.findIn K (.ref C) "__getattribute__" = some (some (.builtin "BaseException.__getattribute__"))) (gg : PySem.W.findIn K (.ref C) "__getattr__" = some none) (nb : PySem.W.findIn K (.ref C) "limit" = some none)
    (aI : PySem.W.findIn K (.ref C) "__init__" = some (some (.ref fI))) (tI : PySem.W.typeIn K (.ref fI) = some (.type "function"))
    (lI : K.lookup fI = some ⟨ocI, odI, .func (PySem.W.fnOf "__init__" "TooMany.__init__" (PySem.TmX.iA p1 p2) (PySem.TmX.iB q1 q2 q3 q4) PySem.TmX.iS .none .none dcI pmI anI cdI ctI), slI⟩) (cI : PySem.W.codeIn K cdI "TooMany.__init__" = true)
    (kC : PySem.W.keepIn K (.ref C) = true) (eC : PySem.W.subIn K (.ref C) (.type "BaseException") = some true) (tC : PySem.W.typeIn K (.ref C) = some (.type "type")) (hC : PySem.W.hasDictIn K C = true) (iC : PySem.W.isClsIn K C = true) (sC : PySem.W.subIn K (.ref C) (.ref C) = some true)
    (nT : PySem.W.nsIn K mainGlobals "MAX_TIMES" = some (some (.int vT tT))) (eT : vT = lim0)
    (n3 : PySem.W.nsIn K mainGlobals "MAX_TERMS" = some (some (.int v3 t3))) (e3 : v3 = 3)
    (n1000 : PySem.W.nsIn K mainGlobals "MAX_STEPS" = some (some (.int v1000 t1000))) (e1000 : v1000 = 1000)
    (aW_ : PySem.W.nsIn K mainGlobals "is_whole" = some (some (.ref fW))) (lW_ : K.lookup fW = some ⟨ocW, odW, .func (PySem.W.fnOf "is_whole" "is_whole" (defArgs sWhole) (defBody sWhole) (defScope sWhole) .none kVW dcW pmW anW cdW ctW), slW⟩) (cW_ : PySem.W.codeIn K cdW "is_whole" = true) (kW_ : PySem.W.keepIn K (.ref fW) = true)
    (aB_ : PySem.W.nsIn K mainGlobals "is_below" = some (some (.ref fB))) (lB_ : K.lookup fB = some ⟨ocB, odB, .func (PySem.W.fnOf "is_below" "is_below" (defArgs sBelow) (defBody sBelow) (defScope sBelow) .none kVB dcB pmB anB cdB ctB), slB⟩) (cB_ : PySem.W.codeIn K cdB "is_below" = true) (kB_ : PySem.W.keepIn K (.ref fB) = true)
    (aPa_ : PySem.W.nsIn K mainGlobals "is_plain_address" = some (some (.ref fPa))) (lPa_ : K.lookup fPa = some ⟨ocPa, odPa, .func (PySem.W.fnOf "is_plain_address" "is_plain_address" (defArgs sPlainA) (defBody sPlainA) (defScope sPlainA) .none kVPa dcPa pmPa anPa cdPa ctPa), slPa⟩) (cPa_ : PySem.W.codeIn K cdPa "is_plain_address" = true) (kPa_ : PySem.W.keepIn K (.ref fPa) = true)
    (aPc_ : PySem.W.nsIn K mainGlobals "_is_piece" = some (some (.ref fPc))) (lPc_ : K.lookup fPc = some ⟨ocPc, odPc, .func (PySem.W.fnOf "_is_piece" "_is_piece" (defArgs sPiece) (defBody sPiece) (defScope sPiece) .none kVPc dcPc pmPc anPc cdPc ctPc), slPc⟩) (cPc_ : PySem.W.codeIn K cdPc "_is_piece" = true) (kPc_ : PySem.W.keepIn K (.ref fPc) = true)
    (aPr_ : PySem.W.nsIn K mainGlobals "_is_pair" = some (some (.ref fPr))) (lPr_ : K.lookup fPr = some ⟨ocPr, odPr, .func (PySem.W.fnOf "_is_pair" "_is_pair" (defArgs sPair) (defBody sPair) (defScope sPair) .none kVPr dcPr pmPr anPr cdPr ctPr), slPr⟩) (cPr_ : PySem.W.codeIn K cdPr "_is_pair" = true) (kPr_ : PySem.W.keepIn K (.ref fPr) = true)
    (aA_ : PySem.W.nsIn K mainGlobals "is_address" = some (some (.ref fA))) (lA_ : K.lookup fA = some ⟨ocA, odA, .func (PySem.W.fnOf "is_address" "is_address" (defArgs sIsAddr) (defBody sIsAddr) (defScope sIsAddr) .none kVA dcA pmA anA cdA ctA), slA⟩) (cA_ : PySem.W.codeIn K cdA "is_address" = true) (kA_ : PySem.W.keepIn K (.ref fA) = true)
    (aC_ : PySem.W.nsIn K mainGlobals "check_below" = some (some (.ref fC))) (lC_ : K.lookup fC = some ⟨ocC, odC, .func (PySem.W.fnOf "check_below" "check_below" (defArgs sChk) (defBody sChk) (defScope sChk) .none kVC dcC pmC anC cdC ctC), slC⟩) (cC_ : PySem.W.codeIn K cdC "check_below" = true) (kC_ : PySem.W.keepIn K (.ref fC) = true)
    (aF_ : PySem.W.nsIn K mainGlobals "_check_form" = some (some (.ref fF))) (lF_ : K.lookup fF = some ⟨ocF, odF, .func (PySem.W.fnOf "_check_form" "_check_form" (defArgs sForm) (defBody sForm) (defScope sForm) .none kVF dcF pmF anF cdF ctF), slF⟩) (cF_ : PySem.W.codeIn K cdF "_check_form" = true) (kF_ : PySem.W.keepIn K (.ref fF) = true)
    (aS_ : PySem.W.nsIn K mainGlobals "_steps_in" = some (some (.ref fS))) (lS_ : K.lookup fS = some ⟨ocS, odS, .func (PySem.W.fnOf "_steps_in" "_steps_in" (defArgs sSteps) (defBody sSteps) (defScope sSteps) .none kVS dcS pmS anS cdS ctS), slS⟩) (cS_ : PySem.W.codeIn K cdS "_steps_in" = true) (kS_ : PySem.W.keepIn K (.ref fS) = true)
    (aL_ : PySem.W.nsIn K mainGlobals "length_of" = some (some (.ref fL))) (lL_ : K.lookup fL = some ⟨ocL, odL, .func (PySem.W.fnOf "length_of" "length_of" (defArgs sLen) (defBody sLen) (defScope sLen) .none kVL dcL pmL anL cdL ctL), slL⟩) (cL_ : PySem.W.codeIn K cdL "length_of" = true) (kL_ : PySem.W.keepIn K (.ref fL) = true)
    (aPl_ : PySem.W.nsIn K mainGlobals "plain" = some (some (.ref fPl))) (lPl_ : K.lookup fPl = some ⟨ocPl, odPl, .func (PySem.W.fnOf "plain" "plain" (defArgs sPlain) (defBody sPlain) (defScope sPlain) .none kVPl dcPl pmPl anPl cdPl ctPl), slPl⟩) (cPl_ : PySem.W.codeIn K cdPl "plain" = true) (kPl_ : PySem.W.keepIn K (.ref fPl) = true)
    (aNb_ : PySem.W.nsIn K mainGlobals "_beginning" = some (some (.ref fNb))) (lNb_ : K.lookup fNb = some ⟨ocNb, odNb, .func (PySem.W.fnOf "_beginning" "_beginning" (defArgs sBeg) (defBody sBeg) (defScope sBeg) .none kVNb dcNb pmNb anNb cdNb ctNb), slNb⟩) (cNb_ : PySem.W.codeIn K cdNb "_beginning" = true) (kNb_ : PySem.W.keepIn K (.ref fNb) = true)
    (aCt_ : PySem.W.nsIn K mainGlobals "cut" = some (some (.ref fCt))) (lCt_ : K.lookup fCt = some ⟨ocCt, odCt, .func (PySem.W.fnOf "cut" "cut" (defArgs sCut) (defBody sCut) (defScope sCut) .none kVCt dcCt pmCt anCt cdCt ctCt), slCt⟩) (cCt_ : PySem.W.codeIn K cdCt "cut" = true) (kCt_ : PySem.W.keepIn K (.ref fCt) = true)
    (aSt_ : PySem.W.nsIn K mainGlobals "_law_stream" = some (some (.ref fSt))) (lSt_ : K.lookup fSt = some ⟨ocSt, odSt, .func (PySem.W.fnOf "_law_stream" "_law_stream" (defArgs sStream) (defBody sStream) (defScope sStream) .none kVSt dcSt pmSt anSt cdSt ctSt), slSt⟩) (cSt_ : PySem.W.codeIn K cdSt "_law_stream" = true) (kSt_ : PySem.W.keepIn K (.ref fSt) = true)
    (aD_ : PySem.W.nsIn K mainGlobals "_law_draw" = some (some (.ref fD))) (lD_ : K.lookup fD = some ⟨ocD, odD, .func (PySem.W.fnOf "_law_draw" "_law_draw" (defArgs sDraw) (defBody sDraw) (defScope sDraw) .none kVD dcD pmD anD cdD ctD), slD⟩) (cD_ : PySem.W.codeIn K cdD "_law_draw" = true) (kD_ : PySem.W.keepIn K (.ref fD) = true)
    (aP_ : PySem.W.nsIn K mainGlobals "_law_pick" = some (some (.ref fP))) (lP_ : K.lookup fP = some ⟨ocP, odP, .func (PySem.W.fnOf "_law_pick" "_law_pick" (defArgs sPick) (defBody sPick) (defScope sPick) .none kVP dcP pmP anP cdP ctP), slP⟩) (cP_ : PySem.W.codeIn K cdP "_law_pick" = true) (kP_ : PySem.W.keepIn K (.ref fP) = true)
    (aAd_ : PySem.W.nsIn K mainGlobals "_law_address" = some (some (.ref fAd))) (lAd_ : K.lookup fAd = some ⟨ocAd, odAd, .func (PySem.W.fnOf "_law_address" "_law_address" (defArgs sLAddr) (defBody sLAddr) (defScope sLAddr) .none kVAd dcAd pmAd anAd cdAd ctAd), slAd⟩) (cAd_ : PySem.W.codeIn K cdAd "_law_address" = true) (kAd_ : PySem.W.keepIn K (.ref fAd) = true)
    (aLn_ : PySem.W.nsIn K mainGlobals "_law_length" = some (some (.ref fLn))) (lLn_ : K.lookup fLn = some ⟨ocLn, odLn, .func (PySem.W.fnOf "_law_length" "_law_length" (defArgs sLLen) (defBody sLLen) (defScope sLLen) .none kVLn dcLn pmLn anLn cdLn ctLn), slLn⟩) (cLn_ : PySem.W.codeIn K cdLn "_law_length" = true) (kLn_ : PySem.W.keepIn K (.ref fLn) = true)
    (aRo_ : PySem.W.nsIn K mainGlobals "_law_rows" = some (some (.ref fRo))) (lRo_ : K.lookup fRo = some ⟨ocRo, odRo, .func (PySem.W.fnOf "_law_rows" "_law_rows" (defArgs sLRows) (defBody sLRows) (defScope sLRows) .none kVRo dcRo pmRo anRo cdRo ctRo), slRo⟩) (cRo_ : PySem.W.codeIn K cdRo "_law_rows" = true) (kRo_ : PySem.W.keepIn K (.ref fRo) = true)
    (aWh_ : PySem.W.nsIn K mainGlobals "_law_is_whole" = some (some (.ref fWh))) (lWh_ : K.lookup fWh = some ⟨ocWh, odWh, .func (PySem.W.fnOf "_law_is_whole" "_law_is_whole" (defArgs sLWh) (defBody sLWh) (defScope sLWh) .none kVWh dcWh pmWh anWh cdWh ctWh), slWh⟩) (cWh_ : PySem.W.codeIn K cdWh "_law_is_whole" = true) (kWh_ : PySem.W.keepIn K (.ref fWh) = true)
    (aEl_ : PySem.W.nsIn K mainGlobals "_law_is_element" = some (some (.ref fEl))) (lEl_ : K.lookup fEl = some ⟨ocEl, odEl, .func (PySem.W.fnOf "_law_is_element" "_law_is_element" (defArgs sLEl) (defBody sLEl) (defScope sLEl) .none kVEl dcEl pmEl anEl cdEl ctEl), slEl⟩) (cEl_ : PySem.W.codeIn K cdEl "_law_is_element" = true) (kEl_ : PySem.W.keepIn K (.ref fEl) = true)
    (aIa_ : PySem.W.nsIn K mainGlobals "_law_is_address" = some (some (.ref fIa))) (lIa_ : K.lookup fIa = some ⟨ocIa, odIa, .func (PySem.W.fnOf "_law_is_address" "_law_is_address" (defArgs sLAd) (defBody sLAd) (defScope sLAd) .none kVIa dcIa pmIa anIa cdIa ctIa), slIa⟩) (cIa_ : PySem.W.codeIn K cdIa "_law_is_address" = true) (kIa_ : PySem.W.keepIn K (.ref fIa) = true)
    (aLc_ : PySem.W.nsIn K mainGlobals "_law_cut" = some (some (.ref fLc))) (lLc_ : K.lookup fLc = some ⟨ocLc, odLc, .func (PySem.W.fnOf "_law_cut" "_law_cut" (defArgs sLCut) (defBody sLCut) (defScope sLCut) .none kVLc dcLc pmLc anLc cdLc ctLc), slLc⟩) (cLc_ : PySem.W.codeIn K cdLc "_law_cut" = true) (kLc_ : PySem.W.keepIn K (.ref fLc) = true)
    (aOd_ : PySem.W.nsIn K mainGlobals "_law_odd_element" = some (some (.ref fOd))) (lOd_ : K.lookup fOd = some ⟨ocOd, odOd, .func (PySem.W.fnOf "_law_odd_element" "_law_odd_element" (defArgs sOdd) (defBody sOdd) (defScope sOdd) .none kVOd dcOd pmOd anOd cdOd ctOd), slOd⟩) (cOd_ : PySem.W.codeIn K cdOd "_law_odd_element" = true) (kOd_ : PySem.W.keepIn K (.ref fOd) = true)
    (aNe_ : PySem.W.nsIn K mainGlobals "_law_near_address" = some (some (.ref fNe))) (lNe_ : K.lookup fNe = some ⟨ocNe, odNe, .func (PySem.W.fnOf "_law_near_address" "_law_near_address" (defArgs sNear) (defBody sNear) (defScope sNear) .none kVNe dcNe pmNe anNe cdNe ctNe), slNe⟩) (cNe_ : PySem.W.codeIn K cdNe "_law_near_address" = true) (kNe_ : PySem.W.keepIn K (.ref fNe) = true)
    (aLo_ : PySem.W.nsIn K mainGlobals "_law_long" = some (some (.ref fLo))) (lLo_ : K.lookup fLo = some ⟨ocLo, odLo, .func (PySem.W.fnOf "_law_long" "_law_long" (defArgs sLong) (defBody sLong) (defScope sLong) .none kVLo dcLo pmLo anLo cdLo ctLo), slLo⟩) (cLo_ : PySem.W.codeIn K cdLo "_law_long" = true) (kLo_ : PySem.W.keepIn K (.ref fLo) = true)
    (aCu_ : PySem.W.nsIn K mainGlobals "_law_cuts_right" = some (some (.ref fCu))) (lCu_ : K.lookup fCu = some ⟨ocCu, odCu, .func (PySem.W.fnOf "_law_cuts_right" "_law_cuts_right" (defArgs sCuts) (defBody sCuts) (defScope sCuts) .none kVCu dcCu pmCu anCu cdCu ctCu), slCu⟩) (cCu_ : PySem.W.codeIn K cdCu "_law_cuts_right" = true) (kCu_ : PySem.W.keepIn K (.ref fCu) = true)
    (aRi_ : PySem.W.nsIn K mainGlobals "_law_right" = some (some (.ref fRi))) (lRi_ : K.lookup fRi = some ⟨ocRi, odRi, .func (PySem.W.fnOf "_law_right" "_law_right" (defArgs sRight) (defBody sRight) (defScope sRight) .none kVRi dcRi pmRi anRi cdRi ctRi), slRi⟩) (cRi_ : PySem.W.codeIn K cdRi "_law_right" = true) (kRi_ : PySem.W.keepIn K (.ref fRi) = true)
    (aY_ : PySem.W.nsIn K mainGlobals "law" = some (some (.ref fY))) (lY_ : K.lookup fY = some ⟨ocY, odY, .func (PySem.W.fnOf "law" "law" (defArgs sLaw) (defBody sLaw) (defScope sLaw) .none kVY dcY pmY anY cdY ctY), slY⟩) (cY_ : PySem.W.codeIn K cdY "law" = true) (kY_ : PySem.W.keepIn K (.ref fY) = true)
    (z0 : PySem.W.nsIn K mainGlobals "isinstance" = some none)
    (z1 : PySem.W.nsIn K mainGlobals "int" = some none)
    (z2 : PySem.W.nsIn K mainGlobals "bool" = some none)
    (z3 : PySem.W.nsIn K mainGlobals "tuple" = some none)
    (z4 : PySem.W.nsIn K mainGlobals "len" = some none)
    (z5 : PySem.W.nsIn K mainGlobals "all" = some none)
    (z6 : PySem.W.nsIn K mainGlobals "abs" = some none)
    (z7 : PySem.W.nsIn K mainGlobals "max" = some none)
    (z8 : PySem.W.nsIn K mainGlobals "min" = some none)
    (z9 : PySem.W.nsIn K mainGlobals "range" = some none)
    (z10 : PySem.W.nsIn K mainGlobals "list" = some none)
    (z11 : PySem.W.nsIn K mainGlobals "sum" = some none)
    (z12 : PySem.W.nsIn K mainGlobals "repr" = some none)
    (z13 : PySem.W.nsIn K mainGlobals "divmod" = some none) :
    ∃ fd : FuncData, (∀ (s : Shared) (v : Value), BindsTo s fd ⟨[v], []⟩ [("_law_script", v)]) ∧ ∀ base : Heap, K.In base → base.Ns mainGlobals mg → FnG P w K mg base (L2.CX P w) 15 fa fd ["_law_script"] (spLaw K) := by
  have e := hfa.symm.trans (PySem.W.mg_of X G aY_)
  cases e
  subst eT e3 e1000
  have M : PySem.TmX.TmTxt K mg C fI :=
    { gC := PySem.W.mg_of X G aC, cls := ⟨nm, q, N, bs, _, sn, sub, ab, col, dd, m0, m1, m2, m3, m5, xC, rfl⟩, sa := sa, ga := ga, gg := gg, noN := nb, iC := aI, tC := tI, kC := kC, exC := eC, tyC := tC, hdC := hC, te := exm_self eC iC tC sC,
      fn := ⟨_, _, _, _, _, _, _, _, _, _, _, _, _, _, lI, cI⟩ }
  have FW := fun_mk (st := sWhole) lW_ cW_ kW_
  have bW := FW.binds (ps := ["value"]) fun _ _ _ _ _ _ us hl => match us, hl with | [_], _ => rfl
  have gW := PySem.W.mg_of X G aW_
  have FB := fun_mk (st := sBelow) lB_ cB_ kB_
  have bB := FB.binds (ps := ["value", "limit"]) fun _ _ _ _ _ _ us hl => match us, hl with | [_, _], _ => rfl
  have gB := PySem.W.mg_of X G aB_
  have FPa := fun_mk (st := sPlainA) lPa_ cPa_ kPa_
  have bPa := FPa.binds (ps := ["value"]) fun _ _ _ _ _ _ us hl => match us, hl with | [_], _ => rfl
  have gPa := PySem.W.mg_of X G aPa_
  have FPc := fun_mk (st := sPiece) lPc_ cPc_ kPc_
  have bPc := FPc.binds (ps := ["value"]) fun _ _ _ _ _ _ us hl => match us, hl with | [_], _ => rfl
  have gPc := PySem.W.mg_of X G aPc_
  have FPr := fun_mk (st := sPair) lPr_ cPr_ kPr_
  have bPr := FPr.binds (ps := ["value"]) fun _ _ _ _ _ _ us hl => match us, hl with | [_], _ => rfl
  have gPr := PySem.W.mg_of X G aPr_
  have FA := fun_mk (st := sIsAddr) lA_ cA_ kA_
  have bA := FA.binds (ps := ["value"]) fun _ _ _ _ _ _ us hl => match us, hl with | [_], _ => rfl
  have gA := PySem.W.mg_of X G aA_
  have FC := fun_mk (st := sChk) lC_ cC_ kC_
  have bC := FC.binds (ps := ["value", "limit"]) fun _ _ _ _ _ _ us hl => match us, hl with | [_, _], _ => rfl
  have gC := PySem.W.mg_of X G aC_
  have FF := fun_mk (st := sForm) lF_ cF_ kF_
  have bF := FF.binds (ps := ["address"]) fun _ _ _ _ _ _ us hl => match us, hl with | [_], _ => rfl
  have gF := PySem.W.mg_of X G aF_
  have FS := fun_mk (st := sSteps) lS_ cS_ kS_
  have bS := FS.binds (ps := ["element"]) fun _ _ _ _ _ _ us hl => match us, hl with | [_], _ => rfl
  have gS := PySem.W.mg_of X G aS_
  have FL := fun_mk (st := sLen) lL_ cL_ kL_
  have bL := FL.binds (ps := ["address"]) fun _ _ _ _ _ _ us hl => match us, hl with | [_], _ => rfl
  have gL := PySem.W.mg_of X G aL_
  have FPl := fun_mk (st := sPlain) lPl_ cPl_ kPl_
  have bPl := FPl.binds (ps := ["address"]) fun _ _ _ _ _ _ us hl => match us, hl with | [_], _ => rfl
  have gPl := PySem.W.mg_of X G aPl_
  have FNb := fun_mk (st := sBeg) lNb_ cNb_ kNb_
  have bNb := FNb.binds (ps := ["pair", "many"]) fun _ _ _ _ _ _ us hl => match us, hl with | [_, _], _ => rfl
  have gNb := PySem.W.mg_of X G aNb_
  have FCt := fun_mk (st := sCut) lCt_ cCt_ kCt_
  have bCt := FCt.binds (ps := ["address", "length"]) fun _ _ _ _ _ _ us hl => match us, hl with | [_, _], _ => rfl
  have gCt := PySem.W.mg_of X G aCt_
  have FSt := fun_mk (st := sStream) lSt_ cSt_ kSt_
  have bSt := FSt.binds (ps := ["_law_script", "_law_at"]) fun _ _ _ _ _ _ us hl => match us, hl with | [_, _], _ => rfl
  have gSt := PySem.W.mg_of X G aSt_
  have FD := fun_mk (st := sDraw) lD_ cD_ kD_
  have bD := FD.binds (ps := ["_law_stream_here", "_law_high"]) fun _ _ _ _ _ _ us hl => match us, hl with | [_, _], _ => rfl
  have gD := PySem.W.mg_of X G aD_
  have FP := fun_mk (st := sPick) lP_ cP_ kP_
  have bP := FP.binds (ps := ["_law_stream_here", "_law_items"]) fun _ _ _ _ _ _ us hl => match us, hl with | [_, _], _ => rfl
  have gP := PySem.W.mg_of X G aP_
  have FAd := fun_mk (st := sLAddr) lAd_ cAd_ kAd_
  have bAd := FAd.binds (ps := ["_law_stream_here", "_law_much", "_law_far"]) fun _ _ _ _ _ _ us hl => match us, hl with | [_, _, _], _ => rfl
  have gAd := PySem.W.mg_of X G aAd_
  have FLn := fun_mk (st := sLLen) lLn_ cLn_ kLn_
  have bLn := FLn.binds (ps := ["_law_address_here"]) fun _ _ _ _ _ _ us hl => match us, hl with | [_], _ => rfl
  have gLn := PySem.W.mg_of X G aLn_
  have FRo := fun_mk (st := sLRows) lRo_ cRo_ kRo_
  have bRo := FRo.binds (ps := ["_law_address_here"]) fun _ _ _ _ _ _ us hl => match us, hl with | [_], _ => rfl
  have gRo := PySem.W.mg_of X G aRo_
  have FWh := fun_mk (st := sLWh) lWh_ cWh_ kWh_
  have bWh := FWh.binds (ps := ["_law_value", "_law_low", "_law_high"]) fun _ _ _ _ _ _ us hl => match us, hl with | [_, _, _], _ => rfl
  have gWh := PySem.W.mg_of X G aWh_
  have FEl := fun_mk (st := sLEl) lEl_ cEl_ kEl_
  have bEl := FEl.binds (ps := ["_law_value"]) fun _ _ _ _ _ _ us hl => match us, hl with | [_], _ => rfl
  have gEl := PySem.W.mg_of X G aEl_
  have FIa := fun_mk (st := sLAd) lIa_ cIa_ kIa_
  have bIa := FIa.binds (ps := ["_law_value"]) fun _ _ _ _ _ _ us hl => match us, hl with | [_], _ => rfl
  have gIa := PySem.W.mg_of X G aIa_
  have FLc := fun_mk (st := sLCut) lLc_ cLc_ kLc_
  have bLc := FLc.binds (ps := ["_law_address_here", "_law_far"]) fun _ _ _ _ _ _ us hl => match us, hl with | [_, _], _ => rfl
  have gLc := PySem.W.mg_of X G aLc_
  have FOd := fun_mk (st := sOdd) lOd_ cOd_ kOd_
  have bOd := FOd.binds (ps := ["_law_stream_here"]) fun _ _ _ _ _ _ us hl => match us, hl with | [_], _ => rfl
  have gOd := PySem.W.mg_of X G aOd_
  have FNe := fun_mk (st := sNear) lNe_ cNe_ kNe_
  have bNe := FNe.binds (ps := ["_law_stream_here", "_law_address_here"]) fun _ _ _ _ _ _ us hl => match us, hl with | [_, _], _ => rfl
  have gNe := PySem.W.mg_of X G aNe_
  have FLo := fun_mk (st := sLong) lLo_ cLo_ kLo_
  have bLo := FLo.binds (ps := ["_law_address_here"]) fun _ _ _ _ _ _ us hl => match us, hl with | [_], _ => rfl
  have gLo := PySem.W.mg_of X G aLo_
  have FCu := fun_mk (st := sCuts) lCu_ cCu_ kCu_
  have bCu := FCu.binds (ps := ["_law_stream_here", "_law_address_here"]) fun _ _ _ _ _ _ us hl => match us, hl with | [_, _], _ => rfl
  have gCu := PySem.W.mg_of X G aCu_
  have FRi := fun_mk (st := sRight) lRi_ cRi_ kRi_
  have bRi := FRi.binds (ps := ["_law_stream_here"]) fun _ _ _ _ _ _ us hl => match us, hl with | [_], _ => rfl
  have gRi := PySem.W.mg_of X G aRi_
  have FY := fun_mk (st := sLaw) lY_ cY_ kY_
  have B : Bj mg := { isi := PySem.W.mg_none_of X G z0, int := PySem.W.mg_none_of X G z1, bool := PySem.W.mg_none_of X G z2, tuple := PySem.W.mg_none_of X G z3, len := PySem.W.mg_none_of X G z4, all := PySem.W.mg_none_of X G z5, abs := PySem.W.mg_none_of X G z6, max := PySem.W.mg_none_of X G z7, min := PySem.W.mg_none_of X G z8, range := PySem.W.mg_none_of X G z9, list := PySem.W.mg_none_of X G z10, sum := PySem.W.mg_none_of X G z11, repr := PySem.W.mg_none_of X G z12, divmod := PySem.W.mg_none_of X G z13 }
  have T : Ad K mg fW fB fPc fPr fA _ _ _ _ _ := ⟨FW, bW, gW, FB, bB, gB, FPc, bPc, gPc, ⟨_, _, FPa, bPa, gPa⟩, FPr, bPr, gPr, FA, bA, gA, ⟨_, PySem.W.mg_of X G n3⟩, ⟨_, PySem.W.mg_of X G nT⟩⟩
  have U : Ae K mg fC fF fS fL _ _ _ _ := ⟨FC, bC, gC, FF, bF, gF, FS, bS, gS, FL, bL, gL⟩
  have V1 : Lf K mg fLn fRo fWh fEl fIa _ _ _ _ _ := ⟨FLn, bLn, gLn, FRo, bRo, gRo, FWh, bWh, gWh, FEl, bEl, gEl, FIa, bIa, gIa⟩
  have Yp : Lp K mg fD fP _ _ := ⟨FD, bD, gD, FP, bP, gP⟩
  have Z : Lz K mg fCt fLc fPl fNb _ _ _ _ := ⟨FCt, bCt, gCt, FLc, bLc, gLc, FPl, bPl, gPl, FNb, bNb, gNb, ⟨_, PySem.W.mg_of X G n1000⟩⟩
  have R : Lr K mg fAd fLo fOd fNe fCu _ _ _ _ _ := ⟨FAd, bAd, gAd, FLo, bLo, gLo, FOd, bOd, gOd, FNe, bNe, gNe, FCu, bCu, gCu⟩
  have S : Lt K mg fSt fRi _ _ := ⟨FSt, bSt, gSt, FRi, bRi, gRi⟩
  exact ⟨_, fun s v => .of_eq rfl, fun base _ _ => ok_law FY T U V1 Yp Z R S M B⟩
end Sl

set_option Elab.async false
set_option linter.all false
set_option maxRecDepth 100000
open PySem PySem.W PyProof.Rows
set_option maxHeartbeats 0 in
theorem PySem.Challenge.cw_sharedlets_k17_forms_of_addresses_holds : PySem.Challenge.rw_sharedlets_k17_forms_of_addresses.Holds := by
  w_on; o_law; k_head; (case hw => w_witness2)
  k_fill
  refine Sl.walkG (l := PySem.Challenge.rw_sharedlets_k17_forms_of_addresses) (n := 63) (k := 15) (x := "_law_script") (sp := fun w => Sl.spLaw _) rfl (by decide) rfl ⟨rfl, by decide, by decide⟩ (fun w h Y => PySem.W.kIn_of Y) ?F (fun w G a ns hl _ hS => ⟨a, ns, rfl, hS, by omega, fun _ => rfl⟩)
  case F =>
    intro w mg fa h KX G hmg
    refine' Sl.all_mk KX G hmg ?aC ?xC ?sa ?ga ?gg ?nb ?aI ?tI ?lI ?cI ?kC ?eC ?tC ?hC ?iC ?sC ?nT ?eT ?n3 ?e3 ?n1000 ?e1000 ?aW_ ?lW_ ?cW_ ?kW_ ?aB_ ?lB_ ?cB_ ?kB_ ?aPa_ ?lPa_ ?cPa_ ?kPa_ ?aPc_ ?lPc_ ?cPc_ ?kPc_ ?aPr_ ?lPr_ ?cPr_ ?kPr_ ?aA_ ?lA_ ?cA_ ?kA_ ?aC_ ?lC_ ?cC_ ?kC_ ?aF_ ?lF_ ?cF_ ?kF_ ?aS_ ?lS_ ?cS_ ?kS_ ?aL_ ?lL_ ?cL_ ?kL_ ?aPl_ ?lPl_ ?cPl_ ?kPl_ ?aNb_ ?lNb_ ?cNb_ ?kNb_ ?aCt_ ?lCt_ ?cCt_ ?kCt_ ?aSt_ ?lSt_ ?cSt_ ?kSt_ ?aD_ ?lD_ ?cD_ ?kD_ ?aP_ ?lP_ ?cP_ ?kP_ ?aAd_ ?lAd_ ?cAd_ ?kAd_ ?aLn_ ?lLn_ ?cLn_ ?kLn_ ?aRo_ ?lRo_ ?cRo_ ?kRo_ ?aWh_ ?lWh_ ?cWh_ ?kWh_ ?aEl_ ?lEl_ ?cEl_ ?kEl_ ?aIa_ ?lIa_ ?cIa_ ?kIa_ ?aLc_ ?lLc_ ?cLc_ ?kLc_ ?aOd_ ?lOd_ ?cOd_ ?kOd_ ?aNe_ ?lNe_ ?cNe_ ?kNe_ ?aLo_ ?lLo_ ?cLo_ ?kLo_ ?aCu_ ?lCu_ ?cCu_ ?kCu_ ?aRi_ ?lRi_ ?cRi_ ?kRi_ ?aY_ ?lY_ ?cY_ ?kY_ ?z0 ?z1 ?z2 ?z3 ?z4 ?z5 ?z6 ?z7 ?z8 ?z9 ?z10 ?z11 ?z12 ?z13
    (case aC => k_is)
    (case xC => k_is)
    (case sa => k_is)
    (case ga => k_is)
    (case gg => k_is)
    (case nb => k_is)
    (case aI => k_is)
    (case tI => k_is)
    (case lI => k_is)
    (case cI => k_is)
    (case kC => k_is)
    (case eC => k_is)
    (case tC => k_is)
    (case hC => k_is)
    (case iC => k_is)
    (case sC => first | rfl | k_is)
    (case nT => k_is)
    (case eT => rfl)
    (case n3 => k_is)
    (case e3 => rfl)
    (case n1000 => k_is)
    (case e1000 => rfl)
    (case aW_ => k_is)
    (case lW_ => k_is)
    (case cW_ => k_is)
    (case kW_ => k_is)
    (case aB_ => k_is)
    (case lB_ => k_is)
    (case cB_ => k_is)
    (case kB_ => k_is)
    (case aPa_ => k_is)
    (case lPa_ => k_is)
    (case cPa_ => k_is)
    (case kPa_ => k_is)
    (case aPc_ => k_is)
    (case lPc_ => k_is)
    (case cPc_ => k_is)
    (case kPc_ => k_is)
    (case aPr_ => k_is)
    (case lPr_ => k_is)
    (case cPr_ => k_is)
    (case kPr_ => k_is)
    (case aA_ => k_is)
    (case lA_ => k_is)
    (case cA_ => k_is)
    (case kA_ => k_is)
    (case aC_ => k_is)
    (case lC_ => k_is)
    (case cC_ => k_is)
    (case kC_ => k_is)
    (case aF_ => k_is)
    (case lF_ => k_is)
    (case cF_ => k_is)
    (case kF_ => k_is)
    (case aS_ => k_is)
    (case lS_ => k_is)
    (case cS_ => k_is)
    (case kS_ => k_is)
    (case aL_ => k_is)
    (case lL_ => k_is)
    (case cL_ => k_is)
    (case kL_ => k_is)
    (case aPl_ => k_is)
    (case lPl_ => k_is)
    (case cPl_ => k_is)
    (case kPl_ => k_is)
    (case aNb_ => k_is)
    (case lNb_ => k_is)
    (case cNb_ => k_is)
    (case kNb_ => k_is)
    (case aCt_ => k_is)
    (case lCt_ => k_is)
    (case cCt_ => k_is)
    (case kCt_ => k_is)
    (case aSt_ => k_is)
    (case lSt_ => k_is)
    (case cSt_ => k_is)
    (case kSt_ => k_is)
    (case aD_ => k_is)
    (case lD_ => k_is)
    (case cD_ => k_is)
    (case kD_ => k_is)
    (case aP_ => k_is)
    (case lP_ => k_is)
    (case cP_ => k_is)
    (case kP_ => k_is)
    (case aAd_ => k_is)
    (case lAd_ => k_is)
    (case cAd_ => k_is)
    (case kAd_ => k_is)
    (case aLn_ => k_is)
    (case lLn_ => k_is)
    (case cLn_ => k_is)
    (case kLn_ => k_is)
    (case aRo_ => k_is)
    (case lRo_ => k_is)
    (case cRo_ => k_is)
    (case kRo_ => k_is)
    (case aWh_ => k_is)
    (case lWh_ => k_is)
    (case cWh_ => k_is)
    (case kWh_ => k_is)
    (case aEl_ => k_is)
    (case lEl_ => k_is)
    (case cEl_ => k_is)
    (case kEl_ => k_is)
    (case aIa_ => k_is)
    (case lIa_ => k_is)
    (case cIa_ => k_is)
    (case kIa_ => k_is)
    (case aLc_ => k_is)
    (case lLc_ => k_is)
    (case cLc_ => k_is)
    (case kLc_ => k_is)
    (case aOd_ => k_is)
    (case lOd_ => k_is)
    (case cOd_ => k_is)
    (case kOd_ => k_is)
    (case aNe_ => k_is)
    (case lNe_ => k_is)
    (case cNe_ => k_is)
    (case kNe_ => k_is)
    (case aLo_ => k_is)
    (case lLo_ => k_is)
    (case cLo_ => k_is)
    (case kLo_ => k_is)
    (case aCu_ => k_is)
    (case lCu_ => k_is)
    (case cCu_ => k_is)
    (case kCu_ => k_is)
    (case aRi_ => k_is)
    (case lRi_ => k_is)
    (case cRi_ => k_is)
    (case kRi_ => k_is)
    (case aY_ => k_is)
    (case lY_ => k_is)
    (case cY_ => k_is)
    (case kY_ => k_is)
    (case z0 => k_is)
    (case z1 => k_is)
    (case z2 => k_is)
    (case z3 => k_is)
    (case z4 => k_is)
    (case z5 => k_is)
    (case z6 => k_is)
    (case z7 => k_is)
    (case z8 => k_is)
    (case z9 => k_is)
    (case z10 => k_is)
    (case z11 => k_is)
    (case z12 => k_is)
    (case z13 => k_is)
