/- What a list of tokens means as a source, or its first error: plain definitions, by fuel. No condition. -/
import Derived.Test.YtmflgfojicaecaaGreatDoorLPath
import Derived.Test.YtmflgfojicaecaaGreatDoorLx
namespace SrcN
open LexN
set_option linter.unusedVariables false
set_option linter.unusedSimpArgs false

/-- A node of an expression. -/
structure Nd where
  k : Nat
  num : Int
  op : Nat
  nm : List Nat
  args : List Nat
deriving DecidableEq
/-- A declaration. -/
structure Dc where
  k : Nat
  nm : List Nat
  ps : List (List Nat)
  bd : List Nd
deriving DecidableEq
/-- A source. -/
structure Src where
  pk : List Nat
  im : List (List Nat)
  dc : List Dc
deriving DecidableEq
/-- What the parser holds: the tokens that are not read yet, the parameters and the nodes of the declaration, and whether a declaration is being read. -/
structure St where
  ts : List Tok
  ps : List (List Nat)
  bd : List Nd
  lv : Bool
/-- An answer and what is held then, or an error at an offset. -/
inductive Out (α : Type) where
  | ok (a : α) (s : St)
  | bad (at' e : Nat)
/-- A part of the parser; none: the fuel is spent. -/
abbrev P (α : Type) := St → Option (Out α)
def ret {α : Type} (a : α) : P α := fun s => some (.ok a s)
def bnd {α β : Type} (m : P α) (k : α → P β) : P β := fun s => match m s with
  | none => none
  | some (.bad a e) => some (.bad a e)
  | some (.ok a s') => k a s'
def hd (s : St) : Tok := s.ts.headD (0, [], 0, 0)
def adv (s : St) : St := ⟨s.ts.tail, s.ps, s.bd, s.lv⟩
/-- an error at a token. -/
def fail {α : Type} (t : Tok) (e : Nat) : P α := fun _ => some (.bad t.2.2.2 e)
def room (t : Tok) (n most : Nat) : P Unit := if most ≤ n then fail t 2 else ret ()
/-- whether the next token is a word or sign. -/
def isW (w : List Nat) (s : St) : Bool := (hd s).1 != 3 && (hd s).2.1 == w
def acc (w : List Nat) : P Bool := fun s => if isW w s then some (.ok true (adv s)) else some (.ok false s)
def expt (w : List Nat) : P Unit := fun s => if isW w s then some (.ok () (adv s)) else fail (hd s) 9 s
def take (k : Nat) : P Tok := fun s => if (hd s).1 = k then some (.ok (hd s) (adv s)) else fail (hd s) 9 s
def words : List (List Nat) := [[112, 97, 99, 107, 97, 103, 101], [105, 109, 112, 111, 114, 116], [102, 117, 110, 99], [116, 101, 115, 116], [103, 101, 110], [105, 102], [116, 104, 101, 110], [101, 108, 115, 101], [114, 101, 97, 100], [115, 105, 122, 101], [104, 97, 115], [101, 110, 118], [102, 108, 105, 112]]
def resv (l : List Nat) : Bool := words.any fun w => l == w
def name : P Tok := bnd (take 1) fun t => if resv t.2.1 then fail t 9 else ret t
def text (fits : List Nat → Bool) : P Tok := bnd (take 3) fun t => if fits t.2.1 then ret t else fail t 9
/-- a node that has ended. -/
def node (t : Tok) (n : Nd) : P Nat := fun s => if s.lv = false then none else if 256 ≤ s.bd.length then fail t 2 s else some (.ok s.bd.length ⟨s.ts, s.ps, s.bd ++ [n], s.lv⟩)
/-- items with commas between them, up to the parenthesis. -/
def listL {β : Type} (item : β → P β) : Nat → β → P β
  | 0, _ => fun _ => none
  | m + 1, b => bnd (acc [41]) fun c => if c then ret b else bnd (expt [44]) fun _ => bnd (item b) fun b' => listL item m b'
def list {β : Type} (n : Nat) (item : β → P β) (b : β) : P β := bnd (expt [40]) fun _ => bnd (acc [41]) fun c => if c then ret b else bnd (item b) fun b' => listL item n b'
/-- the operators: number, sign, level. -/
def ops : List (Nat × List Nat × Nat) := [(1, [43], 2), (2, [45], 2), (3, [42], 3), (4, [47], 3), (5, [37], 3), (6, [60], 1), (7, [61, 61], 1)]
def operL (lvl : Nat) : List (Nat × List Nat × Nat) → P Nat
  | [] => ret 0
  | (o, w, l) :: r => if l = lvl then bnd (acc w) (fun b => if b then ret o else operL lvl r) else operL lvl r
def oper (lvl : Nat) : P Nat := operL lvl ops
def loop (lvl : Nat) (sub : P Nat) : Nat → Nat → P Nat
  | 0, _ => fun _ => none
  | m + 1, left => fun s => bnd (oper lvl) (fun op => if op = 0 then ret left else bnd sub fun right => bnd (node (hd s) ⟨4, 0, op, [], [left, right]⟩) fun l' => if lvl = 1 then ret l' else loop lvl sub m l') s
/-- an expression of at least the level 4 - j. -/
def operation (n : Nat) (fac : P Nat) : Nat → P Nat
  | 0 => fac
  | j + 1 => bnd (operation n fac j) fun left => loop (3 - j) (operation n fac j) n left
def read (rec' : Nat → P Nat) (d : Nat) : P Nd := bnd (expt [40]) fun _ => bnd (text pathB) fun t => bnd (expt [44]) fun _ => bnd (rec' (d + 1)) fun i => bnd (expt [41]) fun _ => ret ⟨6, 0, 0, t.2.1, [i]⟩
def named (k : Nat) (fits : List Nat → Bool) : P Nd := bnd (expt [40]) fun _ => bnd (text fits) fun t => bnd (expt [41]) fun _ => ret ⟨k, 0, 0, t.2.1, []⟩
def flip : P Nd := bnd (expt [40]) fun _ => bnd (take 2) fun t => if 64 ≤ t.2.2.1 then fail t 9 else bnd (expt [41]) fun _ => ret ⟨10, (t.2.2.1 : Nat), 0, [], []⟩
/-- the index of a parameter. -/
def idxOf (l : List Nat) : List (List Nat) → Nat → Option Nat
  | [], _ => none
  | x :: r, i => if x = l then some i else idxOf l r (i + 1)
/-- one more argument. -/
def argsS (rec' : Nat → P Nat) (d : Nat) (ys : List Nat) : P (List Nat) := fun s => if 20000 ≤ ys.length then none else bnd (rec' (d + 1)) (fun i => ret (ys ++ [i])) s
def use (n : Nat) (rec' : Nat → P Nat) (d : Nat) : P Nat := bnd name fun t => fun s =>
  if isW [40] s then bnd (list n (argsS rec' d) []) (fun ys => node t ⟨3, 0, 0, t.2.1, ys⟩) s
  else if s.lv = false then none else match idxOf t.2.1 s.ps 0 with
    | none => fail t 9 s
    | some i => node t ⟨2, (i : Nat), 0, [], []⟩ s
def factor (n : Nat) (rec' : Nat → P Nat) (d : Nat) : P Nat := fun s =>
  if (hd s).1 = 2 then bnd (take 2) (fun t => node (hd s) ⟨1, (t.2.2.1 : Nat), 0, [], []⟩) s
  else bnd (acc [45]) (fun b => if b then bnd (take 2) fun t => node (hd s) ⟨1, -(t.2.2.1 : Nat), 0, [], []⟩ else
    bnd (acc [40]) fun b => if b then bnd (rec' (d + 1)) fun i => bnd (expt [41]) fun _ => ret i else
    bnd (acc [114, 101, 97, 100]) fun b => if b then bnd (read rec' d) fun x => node (hd s) x else
    bnd (acc [115, 105, 122, 101]) fun b => if b then bnd (named 7 pathB) fun x => node (hd s) x else
    bnd (acc [104, 97, 115]) fun b => if b then bnd (named 8 pathB) fun x => node (hd s) x else
    bnd (acc [101, 110, 118]) fun b => if b then bnd (named 9 nameB) fun x => node (hd s) x else
    bnd (acc [102, 108, 105, 112]) fun b => if b then bnd flip fun x => node (hd s) x else use n rec' d) s
/-- an expression at a depth. -/
def expr : Nat → Nat → P Nat
  | 0, _ => fun _ => none
  | n + 1, d => fun s => bnd (room (hd s) (d - 1) 32) (fun _ => bnd (acc [105, 102]) fun b => if b then
      bnd (expr n (d + 1)) fun c => bnd (expt [116, 104, 101, 110]) fun _ => bnd (expr n (d + 1)) fun y => bnd (expt [101, 108, 115, 101]) fun _ => bnd (expr n (d + 1)) fun z => node (hd s) ⟨5, 0, 0, [], [c, y, z]⟩
    else operation n (factor n (expr n) d) 3) s
def param : Unit → P Unit := fun _ => bnd name fun t => fun s => if s.lv = false then none else if 8 ≤ s.ps.length then fail t 2 s else if s.ps.contains t.2.1 then fail t 10 s else some (.ok () ⟨s.ts, s.ps ++ [t.2.1], s.bd, s.lv⟩)
def kind : P Nat := bnd (acc [102, 117, 110, 99]) fun b => if b then ret 1 else bnd (acc [116, 101, 115, 116]) fun b => if b then ret 2 else bnd (expt [103, 101, 110]) fun _ => ret 3
def declared (k : Nat) (earlier : List Dc) : P (List Nat) := bnd (if k = 3 then text pathB else name) fun t => if earlier.any (fun d => d.k == k && d.nm == t.2.1) then fail t 10 else ret t.2.1
def decl (n : Nat) (earlier : List Dc) : P Dc := fun s => bnd kind (fun k => bnd (room (hd s) earlier.length 64) fun _ => bnd (declared k earlier) fun nm => fun s =>
  bnd (if k = 1 then list n param () else ret ()) (fun _ => bnd (expt [61]) fun _ => bnd (expr n 1) fun _ => bnd (expt [59]) fun _ => fun s => some (.ok ⟨k, nm, s.ps, s.bd⟩ ⟨s.ts, [], [], false⟩)) ⟨s.ts, [], [], true⟩) s
def imported (pk : List Nat) (im : List (List Nat)) : P (List Nat) := fun s => bnd (room (hd s) im.length 8) (fun _ => bnd (expt [105, 109, 112, 111, 114, 116]) fun _ => bnd name fun t => if t.2.1 = pk ∨ im.contains t.2.1 then fail t 10 else bnd (expt [59]) fun _ => ret t.2.1) s
def imports (pk : List Nat) : Nat → List (List Nat) → P (List (List Nat))
  | 0, _ => fun _ => none
  | m + 1, im => fun s => if isW [105, 109, 112, 111, 114, 116] s then bnd (imported pk im) (fun q => imports pk m (im ++ [q])) s else ret im s
def decls (n : Nat) : Nat → List Dc → P (List Dc)
  | 0, _ => fun _ => none
  | m + 1, ds => fun s => if (hd s).1 = 5 then ret ds s else bnd (decl n ds) (fun d => decls n m (ds ++ [d])) s
def file (n : Nat) : P Src := bnd (expt [112, 97, 99, 107, 97, 103, 101]) fun _ => bnd name fun t => bnd (expt [59]) fun _ => bnd (imports t.2.1 n []) fun im => bnd (decls n n []) fun ds => ret ⟨t.2.1, im, ds⟩
def Src.zero : Src := ⟨[], [], []⟩
/-- what a list of tokens means: a source, or an offset and an error. -/
def parseT (n : Nat) (ts : List Tok) : Option (Src × Nat × Nat) := match file n ⟨ts, [], [], false⟩ with
  | none => none
  | some (.bad a e) => some (.zero, a, e)
  | some (.ok f _) => some (f, 0, 0)
/-- what a text means. -/
def parse (n : Nat) (l : List Nat) : Option (Src × Nat × Nat) := if (toks l).2.2 = 0 then parseT n (toks l).1 else some (.zero, (toks l).2.1, (toks l).2.2)

/-- whether a text is read as a source whose bodies have so many nodes. -/
def reads (n : Nat) (l : List Nat) (ks : List Nat) : Bool := match parse n l with
  | some (f, 0, 0) => f.dc.map (fun d => d.bd.length) == ks
  | _ => false
/-- whether a text has an error. -/
def errs (n : Nat) (l : List Nat) (a e : Nat) : Bool := match parse n l with
  | some (_, a', e') => a' == a && e' == e
  | _ => false
theorem ex1 : reads 60 [112, 97, 99, 107, 97, 103, 101, 32, 112, 59, 32, 102, 117, 110, 99, 32, 102, 40, 120, 41, 32, 61, 32, 120, 32, 43, 32, 50, 32, 42, 32, 51, 59] [5] = true := by decide +kernel
theorem ex2 : errs 60 [112, 97, 99, 107, 97, 103, 101, 32, 112, 59, 32, 116, 101, 115, 116, 32, 116, 116, 32, 61, 32, 120, 120, 59] 21 9 = true := by decide +kernel
theorem ex3 : errs 60 [112, 97, 99, 107, 97, 103, 101, 32, 112, 59, 32, 116, 101, 115, 116, 32, 116, 32, 61, 32, 49, 59, 32, 116, 101, 115, 116, 32, 116, 32, 61, 32, 50, 59] 28 10 = true := by decide +kernel
end SrcN
