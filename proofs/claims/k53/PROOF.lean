import PyProof.Rows.All
import Wide.All
import OpenK.AllK
import Wide.FinOn
import Lean
import PyProof.EqAt
import PyProof.EqKinds
import PyProof.TupleCall
import KE.KDictList
import KE.KRevIter
import KE.KTurns
import PyProof.Rows.SetFrom
import PyProof.Rows.SortStr
import PyProof.FactsAll.set
import PyProof.Draws
import PyProof.EnumMake
import PyProof.AttrMissSeq
import KE.KDictOf
import PyProof.Walks
import KE.KSortTup
import KE.KItemsList
import KE.KDictSum
import PyProof.Rows.SortRev
import KE.KDictLaws
import PyProof.DictTruth
import PyProof.MinMaxWalk
import PyProof.WalkInts
import PyProof.ExcAttrAll.ValueError
import KE.KIsAll
import PyProof.DictRoadsH
import PyProof.SeqI3
import PySem.Challenge.RW_doneroom_k53_how_rooms_grow
set_option compiler.extract_closed false
set_option compiler.reuse false
set_option genSizeOf false
section
variable{G:Prop}
theorem xa{p q:Prop}(h:p∧q)(k:p→q→G):G:=k h.1 h.2
theorem xaa{p q r:Prop}(h:p∧q∧r)(k:p→q→r→G):G:=k h.1 h.2.1 h.2.2
theorem xaaa{p q r s:Prop}(h:p∧q∧r∧s)(k:p→q→r→s→G):G:=k h.1 h.2.1 h.2.2.1 h.2.2.2
theorem xaaaa{p q r s t:Prop}(h:p∧q∧r∧s∧t)(k:p→q→r→s→t→G):G:=k h.1 h.2.1 h.2.2.1 h.2.2.2.1 h.2.2.2.2
theorem xaaaaa{p q r s t m:Prop}(h:p∧q∧r∧s∧t∧m)(k:p→q→r→s→t→m→G):G:=k h.1 h.2.1 h.2.2.1 h.2.2.2.1 h.2.2.2.2.1 h.2.2.2.2.2
theorem xaaea{p q:Prop}{r s:A→Prop}(h:p∧q∧∃x,r x∧s x)(k:p→q→∀x,r x→s x→G):G:=h.2.2.elim fun x h0=>k h.1 h.2.1 x h0.1 h0.2
theorem xaea{p:Prop}{q r:A→Prop}(h:p∧∃x,q x∧r x)(k:p→∀x,q x→r x→G):G:=h.2.elim fun x h0=>k h.1 x h0.1 h0.2
theorem xaeeaa{p:Prop}{q r s:A→B→Prop}(h:p∧∃x y,q x y∧r x y∧s x y)(k:p→∀x y,q x y→r x y→s x y→G):G:=h.2.elim fun x h0=>h0.elim fun y h1=>k h.1 x y h1.1 h1.2.1 h1.2.2
theorem xe{p:A→Prop}(h:∃x,p x)(k:∀x,p x→G):G:=h.elim fun x h=>k x h
theorem xea{p q:A→Prop}(h:∃x,p x∧q x)(k:∀x,p x→q x→G):G:=h.elim fun x h=>k x h.1 h.2
theorem xeaa{p q r:A→Prop}(h:∃x,p x∧q x∧r x)(k:∀x,p x→q x→r x→G):G:=h.elim fun x h=>k x h.1 h.2.1 h.2.2
theorem xeaaaa{p q r s t:A→Prop}(h:∃x,p x∧q x∧r x∧s x∧t x)(k:∀x,p x→q x→r x→s x→t x→G):G:=h.elim fun x h=>k x h.1 h.2.1 h.2.2.1 h.2.2.2.1 h.2.2.2.2
theorem xeaae{p q:A→Prop}{r:A→B→Prop}(h:∃x,p x∧q x∧∃y,r x y)(k:∀x,p x→q x→∀y,r x y→G):G:=h.elim fun x h=>h.2.2.elim fun y h1=>k x h.1 h.2.1 y h1
theorem xee{p:A→B→Prop}(h:∃x y,p x y)(k:∀x y,p x y→G):G:=h.elim fun x h=>h.elim fun y h=>k x y h
theorem xeea{p q:A→B→Prop}(h:∃x y,p x y∧q x y)(k:∀x y,p x y→q x y→G):G:=h.elim fun x h=>h.elim fun y h=>k x y h.1 h.2
theorem xeeaa{p q r:A→B→Prop}(h:∃x y,p x y∧q x y∧r x y)(k:∀x y,p x y→q x y→r x y→G):G:=h.elim fun x h=>h.elim fun y h=>k x y h.1 h.2.1 h.2.2
theorem xeeaaa{p q r s:A→B→Prop}(h:∃x y,p x y∧q x y∧r x y∧s x y)(k:∀x y,p x y→q x y→r x y→s x y→G):G:=h.elim fun x h=>h.elim fun y h=>k x y h.1 h.2.1 h.2.2.1 h.2.2.2
theorem xeeaaaa{p q r s t:A→B→Prop}(h:∃x y,p x y∧q x y∧r x y∧s x y∧t x y)(k:∀x y,p x y→q x y→r x y→s x y→t x y→G):G:=h.elim fun x h=>h.elim fun y h=>k x y h.1 h.2.1 h.2.2.1 h.2.2.2.1 h.2.2.2.2
theorem xeeaaaaa{p q r s t m:A→B→Prop}(h:∃x y,p x y∧q x y∧r x y∧s x y∧t x y∧m x y)(k:∀x y,p x y→q x y→r x y→s x y→t x y→m x y→G):G:=h.elim fun x h=>h.elim fun y h=>k x y h.1 h.2.1 h.2.2.1 h.2.2.2.1 h.2.2.2.2.1 h.2.2.2.2.2
theorem xeeea{p q:A→B→C→Prop}(h:∃x y z,p x y z∧q x y z)(k:∀x y z,p x y z→q x y z→G):G:=h.elim fun x h=>h.elim fun y h=>h.elim fun z h=>k x y z h.1 h.2
theorem xeeeaa{p q r:A→B→C→Prop}(h:∃x y z,p x y z∧q x y z∧r x y z)(k:∀x y z,p x y z→q x y z→r x y z→G):G:=h.elim fun x h=>h.elim fun y h=>h.elim fun z h=>k x y z h.1 h.2.1 h.2.2
theorem xeeeaaa{p q r s:A→B→C→Prop}(h:∃x y z,p x y z∧q x y z∧r x y z∧s x y z)(k:∀x y z,p x y z→q x y z→r x y z→s x y z→G):G:=h.elim fun x h=>h.elim fun y h=>h.elim fun z h=>k x y z h.1 h.2.1 h.2.2.1 h.2.2.2
theorem xeeeaaaa{p q r s t:A→B→C→Prop}(h:∃x y z,p x y z∧q x y z∧r x y z∧s x y z∧t x y z)(k:∀x y z,p x y z→q x y z→r x y z→s x y z→t x y z→G):G:=h.elim fun x h=>h.elim fun y h=>h.elim fun z h=>k x y z h.1 h.2.1 h.2.2.1 h.2.2.2.1 h.2.2.2.2
theorem xeeeea{p q:A→B→C→D→Prop}(h:∃x y z u,p x y z u∧q x y z u)(k:∀x y z u,p x y z u→q x y z u→G):G:=h.elim fun x h=>h.elim fun y h=>h.elim fun z h=>h.elim fun u h=>k x y z u h.1 h.2
theorem xeeeeaaa{p q r s:A→B→C→D→Prop}(h:∃x y z u,p x y z u∧q x y z u∧r x y z u∧s x y z u)(k:∀x y z u,p x y z u→q x y z u→r x y z u→s x y z u→G):G:=h.elim fun x h=>h.elim fun y h=>h.elim fun z h=>h.elim fun u h=>k x y z u h.1 h.2.1 h.2.2.1 h.2.2.2
theorem xeeeeeaaa{p q r s:A→B→C→D→E→Prop}(h:∃x y z u v,p x y z u v∧q x y z u v∧r x y z u v∧s x y z u v)(k:∀x y z u v,p x y z u v→q x y z u v→r x y z u v→s x y z u v→G):G:=h.elim fun x h=>h.elim fun y h=>h.elim fun z h=>h.elim fun u h=>h.elim fun v h=>k x y z u v h.1 h.2.1 h.2.2.1 h.2.2.2
theorem xeeeeeeaaaa{p q r s t:A→B→C→D→E→F→Prop}(h:∃x y z u v w,p x y z u v w∧q x y z u v w∧r x y z u v w∧s x y z u v w∧t x y z u v w)(k:∀x y z u v w,p x y z u v w→q x y z u v w→r x y z u v w→s x y z u v w→t x y z u v w→G):G:=h.elim fun x h=>h.elim fun y h=>h.elim fun z h=>h.elim fun u h=>h.elim fun v h=>h.elim fun w h=>k x y z u v w h.1 h.2.1 h.2.2.1 h.2.2.2.1 h.2.2.2.2
end
theorem y11{p q:A→Prop}(x:A)(h0:p x)(h1:q x):∃x,p x∧q x:=⟨x,h0,h1⟩
theorem y12{p q r:A→Prop}(x:A)(h0:p x)(h1:q x)(h2:r x):∃x,p x∧q x∧r x:=⟨x,h0,h1,h2⟩
theorem y13{p q r s:A→Prop}(x:A)(h0:p x)(h1:q x)(h2:r x)(h3:s x):∃x,p x∧q x∧r x∧s x:=⟨x,h0,h1,h2,h3⟩
theorem y14{p q r s t:A→Prop}(x:A)(h0:p x)(h1:q x)(h2:r x)(h3:s x)(h4:t x):∃x,p x∧q x∧r x∧s x∧t x:=⟨x,h0,h1,h2,h3,h4⟩
theorem y15{p q r s t m:A→Prop}(x:A)(h0:p x)(h1:q x)(h2:r x)(h3:s x)(h4:t x)(h5:m x):∃x,p x∧q x∧r x∧s x∧t x∧m x:=⟨x,h0,h1,h2,h3,h4,h5⟩
theorem y16{p q r s t m n:A→Prop}(x:A)(h0:p x)(h1:q x)(h2:r x)(h3:s x)(h4:t x)(h5:m x)(h6:n x):∃x,p x∧q x∧r x∧s x∧t x∧m x∧n x:=⟨x,h0,h1,h2,h3,h4,h5,h6⟩
theorem y17{p q r s t m n o:A→Prop}(x:A)(h0:p x)(h1:q x)(h2:r x)(h3:s x)(h4:t x)(h5:m x)(h6:n x)(h7:o x):∃x,p x∧q x∧r x∧s x∧t x∧m x∧n x∧o x:=⟨x,h0,h1,h2,h3,h4,h5,h6,h7⟩
theorem y20{p:A→B→Prop}(x:A)(y:B)(h0:p x y):∃x y,p x y:=⟨x,y,h0⟩
theorem y21{p q:A→B→Prop}(x:A)(y:B)(h0:p x y)(h1:q x y):∃x y,p x y∧q x y:=⟨x,y,h0,h1⟩
theorem y22{p q r:A→B→Prop}(x:A)(y:B)(h0:p x y)(h1:q x y)(h2:r x y):∃x y,p x y∧q x y∧r x y:=⟨x,y,h0,h1,h2⟩
theorem y23{p q r s:A→B→Prop}(x:A)(y:B)(h0:p x y)(h1:q x y)(h2:r x y)(h3:s x y):∃x y,p x y∧q x y∧r x y∧s x y:=⟨x,y,h0,h1,h2,h3⟩
theorem y24{p q r s t:A→B→Prop}(x:A)(y:B)(h0:p x y)(h1:q x y)(h2:r x y)(h3:s x y)(h4:t x y):∃x y,p x y∧q x y∧r x y∧s x y∧t x y:=⟨x,y,h0,h1,h2,h3,h4⟩
theorem y25{p q r s t m:A→B→Prop}(x:A)(y:B)(h0:p x y)(h1:q x y)(h2:r x y)(h3:s x y)(h4:t x y)(h5:m x y):∃x y,p x y∧q x y∧r x y∧s x y∧t x y∧m x y:=⟨x,y,h0,h1,h2,h3,h4,h5⟩
theorem y26{p q r s t m n:A→B→Prop}(x:A)(y:B)(h0:p x y)(h1:q x y)(h2:r x y)(h3:s x y)(h4:t x y)(h5:m x y)(h6:n x y):∃x y,p x y∧q x y∧r x y∧s x y∧t x y∧m x y∧n x y:=⟨x,y,h0,h1,h2,h3,h4,h5,h6⟩
theorem y30{p:A→B→C→Prop}(x:A)(y:B)(z:C)(h0:p x y z):∃x y z,p x y z:=⟨x,y,z,h0⟩
theorem y31{p q:A→B→C→Prop}(x:A)(y:B)(z:C)(h0:p x y z)(h1:q x y z):∃x y z,p x y z∧q x y z:=⟨x,y,z,h0,h1⟩
theorem y32{p q r:A→B→C→Prop}(x:A)(y:B)(z:C)(h0:p x y z)(h1:q x y z)(h2:r x y z):∃x y z,p x y z∧q x y z∧r x y z:=⟨x,y,z,h0,h1,h2⟩
theorem y33{p q r s:A→B→C→Prop}(x:A)(y:B)(z:C)(h0:p x y z)(h1:q x y z)(h2:r x y z)(h3:s x y z):∃x y z,p x y z∧q x y z∧r x y z∧s x y z:=⟨x,y,z,h0,h1,h2,h3⟩
theorem y34{p q r s t:A→B→C→Prop}(x:A)(y:B)(z:C)(h0:p x y z)(h1:q x y z)(h2:r x y z)(h3:s x y z)(h4:t x y z):∃x y z,p x y z∧q x y z∧r x y z∧s x y z∧t x y z:=⟨x,y,z,h0,h1,h2,h3,h4⟩
theorem y35{p q r s t m:A→B→C→Prop}(x:A)(y:B)(z:C)(h0:p x y z)(h1:q x y z)(h2:r x y z)(h3:s x y z)(h4:t x y z)(h5:m x y z):∃x y z,p x y z∧q x y z∧r x y z∧s x y z∧t x y z∧m x y z:=⟨x,y,z,h0,h1,h2,h3,h4,h5⟩
theorem y40{p:A→B→C→D→Prop}(x:A)(y:B)(z:C)(u:D)(h0:p x y z u):∃x y z u,p x y z u:=⟨x,y,z,u,h0⟩
theorem y41{p q:A→B→C→D→Prop}(x:A)(y:B)(z:C)(u:D)(h0:p x y z u)(h1:q x y z u):∃x y z u,p x y z u∧q x y z u:=⟨x,y,z,u,h0,h1⟩
theorem y42{p q r:A→B→C→D→Prop}(x:A)(y:B)(z:C)(u:D)(h0:p x y z u)(h1:q x y z u)(h2:r x y z u):∃x y z u,p x y z u∧q x y z u∧r x y z u:=⟨x,y,z,u,h0,h1,h2⟩
theorem y43{p q r s:A→B→C→D→Prop}(x:A)(y:B)(z:C)(u:D)(h0:p x y z u)(h1:q x y z u)(h2:r x y z u)(h3:s x y z u):∃x y z u,p x y z u∧q x y z u∧r x y z u∧s x y z u:=⟨x,y,z,u,h0,h1,h2,h3⟩
theorem y44{p q r s t:A→B→C→D→Prop}(x:A)(y:B)(z:C)(u:D)(h0:p x y z u)(h1:q x y z u)(h2:r x y z u)(h3:s x y z u)(h4:t x y z u):∃x y z u,p x y z u∧q x y z u∧r x y z u∧s x y z u∧t x y z u:=⟨x,y,z,u,h0,h1,h2,h3,h4⟩
theorem y50{p:A→B→C→D→E→Prop}(x:A)(y:B)(z:C)(u:D)(v:E)(h0:p x y z u v):∃x y z u v,p x y z u v:=⟨x,y,z,u,v,h0⟩
theorem y51{p q:A→B→C→D→E→Prop}(x:A)(y:B)(z:C)(u:D)(v:E)(h0:p x y z u v)(h1:q x y z u v):∃x y z u v,p x y z u v∧q x y z u v:=⟨x,y,z,u,v,h0,h1⟩
theorem y52{p q r:A→B→C→D→E→Prop}(x:A)(y:B)(z:C)(u:D)(v:E)(h0:p x y z u v)(h1:q x y z u v)(h2:r x y z u v):∃x y z u v,p x y z u v∧q x y z u v∧r x y z u v:=⟨x,y,z,u,v,h0,h1,h2⟩
theorem y53{p q r s:A→B→C→D→E→Prop}(x:A)(y:B)(z:C)(u:D)(v:E)(h0:p x y z u v)(h1:q x y z u v)(h2:r x y z u v)(h3:s x y z u v):∃x y z u v,p x y z u v∧q x y z u v∧r x y z u v∧s x y z u v:=⟨x,y,z,u,v,h0,h1,h2,h3⟩
section
open Lean
def obS:=["eeeeeeaaaa","eeeeeaaa","eeeaaaa","eeaaaaa","eeeeaaa","eeeaaa","eeaaaa","eeaaa","eeeaa","aeeaa","eeeea","aaaaa","eaaaa","eeaa","aaea","eeea","eaae","aaaa","eaa","eea","aaa","aea","ea","aa","ee","a","e"]
def obG(ps:Array (TSyntax ``Parser.Tactic.rcasesPatLo))(t:Term):MacroM (TSyntax `tactic):=do
 let n:=ps.size
 if n<2 then Macro.throwUnsupported
 let p←ps.mapM fun p=>do `(rintroPat|$(←`(rcasesPat|($p))):rcasesPat)
 let c←if t.raw.isIdent then `(tactic|try clear $(⟨t.raw⟩)) else `(tactic|skip)
 let a←(obS.toArray.filter (·.length<n)).mapM fun s=>do
  let k:=s.length
  let x:=mkIdent ("x"++s).toName
  if k+1==n then `(tacticSeq|refine $x $t ?_;$c;rintro $p*)
  else
   let q:=ps.extract k n
   let r:=p.extract 0 k
   `(tacticSeq|refine $x $t ?_;$c;rintro $r* z;obtain⟨$[$q],*⟩:=z)
 let a:=a.push (←`(tacticSeq|rcases $t:term with ⟨$[$ps],*⟩))
 `(tactic|first $[|$a]*)
def obI(ts:Array Term)(f:Term->MacroM (TSyntax ``Lean.Parser.Tactic.tacticSeq)):MacroM (TSyntax `tactic):=do
 let n:=ts.size
 if n<3||n>9 then Macro.throwUnsupported
 let a←([3,2,1,4,5].filter (·<n)).toArray.mapM fun i=>do f (←`($(mkIdent s!"y{i}{n-1-i}".toName) $ts*))
 let a:=a.push (←f (←`((⟨$[$ts],*⟩))))
 `(tactic|first $[|$a]*)
end
local macro_rules
 |`(tactic|exact⟨$[$t],*⟩)=>obI t fun x=>`(tacticSeq|exact $x)
 |`(tactic|refine⟨$[$t],*⟩)=>obI t fun x=>`(tacticSeq|refine $x)
local macro_rules|`(tactic|obtain⟨$[$p],*⟩:=$t)=>obG p t
theorem zq{a c:A}{b d:B}(e:some (a,b)=some (c,d)):a=c∧b=d:=by cases e;exact⟨rfl,rfl⟩
local macro_rules|`(tactic|cases $h:ident)=>`(tactic|first|subst $h|(have z:=Option.some.inj $h;clear $h;subst z)|(obtain⟨x,y⟩:=zq $h;clear $h;subst x;subst y)|cases ($h))
set_option Elab.async false
set_option bootstrap.genMatcherCode false
set_option linter.all false
set_option maxRecDepth 100000
section
open Lean
def zS(m:NameMap Syntax):Nat->Syntax->Syntax
 |n+1,.node _ k a=>.node .none k (a.map (zS m n))
 |_,.ident i r v p=>match m.find? v.getRoot with
  |some s=>if v.isAtomic then s else mkIdent (v.replacePrefix v.getRoot s.getId)
  |_=>.ident i r v p
 |_,s=>s
def zA(d:NameMap (List Name×Syntax))(e:Syntax->Syntax)(s:Syntax):Option Syntax:=
 let (f,a):=if s.isOfKind `Lean.Parser.Term.app then (s[0],s[1].getArgs) else (s,#[])
 match d.find? f.getId with
 |some (p,b)=>if p.length==a.size then some (if p==[] then e b else zS ((p.zip a.toList).foldl (fun m x=>m.insert x.1 (e x.2)) {}) 999 (e b)) else none
 |_=>none
def zO(k:SyntaxNodeKind)(a:Array Syntax):Syntax:=.node .none k a
def zL(a:Array Syntax):Syntax:=zO `null a
def zT(s:String):Syntax:=.atom .none s
def zU(k:String):Name:=.str `Lean.Parser.Tactic k
def zP:Nat->Syntax->Syntax
 |n+1,s=>if s.isIdent then zO (zU "rcasesPat" ++ `one) #[s] else if s.getKind==`Lean.Parser.Term.anonymousCtor then zO (zU "rcasesPat" ++ `tuple) #[s[0],zL (s[1].getArgs.map fun x=>if x.isAtom then x else zO (zU "rcasesPatLo") #[zO (zU "rcasesPatMed") #[zL #[zP n x]],zL #[]]),s[2]] else zO (zU "rcasesPat" ++ `ignore) #[s[0]]
 |_,s=>s
def zK(k:SyntaxNodeKind)(a:Array Syntax):Syntax:=
 let g:=fun s t=>zO (zU t) (a.set! 0 (zT s))
 if k==zU "tacticLet__" then
  let q:=a[2]![0]
  if q[0].getKind==`Lean.Parser.Term.anonymousCtor then zO (zU "obtain") #[zT "obtain",zL #[zO (zU "rcasesPatMed") #[zL #[zP 9 q[0]]]],zL #[],zL #[q[3],zL #[q[4]]]] else g "have" "tacticHave__"
 else if k==zU "tacticLetI__" then g "let" "tacticLet__"
 else if k==zU "show" then g "exact" "exact"
 else if k==zU "apply" then g "show" "show"
 else if k==zU "refine'" then g "apply" "apply"
 else if k==`«term#[_,]» then
  let b:=a[1]!.getArgs
  if b.size==0 then zO k a else if b.size%2==0 then zO k (a.set! 1 (zL b.pop)) else zO `Lean.Parser.Term.anonymousCtor #[zT "⟨",a[1]!,zT "⟩"]
 else zO k a
def zE(d:NameMap (List Name×Syntax)):Nat->Syntax->Syntax
 |n+1,s=>match zA d (zE d n) s with
  |some t=>t
  |_=>match s with
   |.node _ k a=>
    let a:=if k==`Lean.Parser.Term.basicFun then a.modify 0 fun b=>zL (b.getArgs.map fun x=>if x.isOfKind `Lean.Parser.Term.hole then mkIdent `_x else x) else a
    zK k (if k==`null then a.foldl (fun r x=>
     if x.isOfKind (zU "show") then
      let t:=if x[1].isOfKind `Lean.Parser.Term.tuple then x[1][1][0]::x[1][1][2].getSepArgs.toList else [x[1]]
      (t.foldl (fun r t=>r.push (zT ";")++match zA d (zE d n) t with
       |some y=>if y.isOfKind `Lean.Parser.Term.byTactic then y[1][0][0].getArgs else #[zK (zU "show") #[x[0],y]]
       |_=>#[zK (zU "show") #[x[0],zE d n t]]) #[]).foldl (fun (r,b) y=>(if b then r else r.push y,false)) (r,true)|>.1
     else r.push (zE d n x)) #[] else a.map (zE d n))
   |.atom _ v=>zT v
   |.ident _ r v p=>.ident .none r v p
   |x=>x
 |_,s=>s
def zN(m:Syntax):Syntax:=m.setArg 4 (zL #[zO `Lean.Parser.Command.noncomputable #[zT "noncomputable"]])
def zD:Nat->Syntax->Syntax
 |n+1,c=>
  let d:=c[1]
  if c.isOfKind `Lean.Parser.Command.mutual then c.setArg 1 (zL (d.getArgs.map (zD n)))
  else if c.isOfKind `Lean.Parser.Command.in then c.setArg 2 (zD n c[2])
  else if d.isOfKind `Lean.Parser.Command.definition then c.setArg 1 (zO `Lean.Parser.Command.theorem #[zT "theorem",d[1],zO `Lean.Parser.Command.declSig #[d[2][0],d[2][1][0]],d[3]])
  else if d.isOfKind `Lean.Parser.Command.abbrev&&c[0][4].getNumArgs==0 then (c.setArg 0 (zN c[0])).setArg 1 (zO `Lean.Parser.Command.definition #[zT "def",d[1],d[2],d[3],zL #[]])
  else c
 |_,c=>c
def zC(d:NameMap (List Name×Syntax))(c:Syntax):Syntax:=
 match c[1].isStrLit? with
 |some s=>if s.front != '-' then c else zO `Lean.Parser.Command.end #[zT "end",zL (if s.length==1 then #[] else #[mkIdent (s.drop 1).toName,zL #[]])]
 |_=>zD 9 (zE d 999 c)
def zH(s t:String):List String:=s.toList.flatMap fun a=>t.toList.map fun b=>String.ofList [a,b]
def zQ:List String:="ÀÁÂÃÄÅÆÇÈÉÊËÌÍÎÏÐÑÒÓÔÕÖØÙÚÛÜÝÞßàáâãäåæçèéêëìíîïðñòóôõöøùúûüýþÿĀāĂăĄąĆćĈĉĊċČčĎďĐđĒēĔĕĖėĘęĚěĜĝĞğĠġĢģĤĥĦħĨĩĪīĬĭĮįİıĲĳĴĵĶķĸĹĺĻļĽľĿŀŁłŃńŅņŇňŉŊŋŌōŎŏŐőŒœŔŕŖŗŘřŚśŜŝŞşŠšŢţŤťŦŧŨũŪūŬŭŮůŰűŲųŴŵŶŷŸŹźŻżŽžſΑΒΓΔΕΖΗΘΙΚΛΜΝΞΟΡ΢ΤΥΦΧΨΩγδεζηθμνξοπςυχψωϊϋόύώϏϐϑϒϓϔϕϖϗϘϙϚϛϜϝϞϟϠϡϢϣϤϥϦϧϨϩϪϫϬϭϮϯϰϱϲϳϴϵ϶ϷϸϹϺϻ".toList.map (·.toString)++zH "AjBCTuySqvHPxcipMzfkdslowgmnRbtre" "03456789abcdefghijklmnopqrtuvwxyzABCDEFGHIJKLMNOPQRSTUVWXYZ"++(zH "zjqxZJ" "abcdefghijklmnopqrstuvwxyzABCDEFGHIJKLMNOPQRSTUVWXYZ").flatMap fun s=>"0123456789abcdefghij".toList.map s.push
def zB(l:List Syntax):NameMap (List Name×Syntax):=(zQ.zip l).foldl (fun d x=>
  let b:=x.2
  let (p,b):=if b.isOfKind `Lean.Parser.Term.fun then (b[1][0].getArgs.toList.map (·.getId),b[1][3]) else ([],b)
  if b.isOfKind `Lean.Parser.Term.hole then d else d.insert (.str .anonymous x.1) (p,if b.isOfKind `Lean.Parser.Term.paren then b[1] else b)) {}
def zM(cs:Array Syntax):MacroM Syntax:=do
 unless cs[0]!.isOfKind `Lean.Parser.Command.check do Macro.throwUnsupported
 let d:=zB cs[0]![1][1].getSepArgs.toList
 return zL ((cs.extract 1 cs.size).map (zC d))
end
local macro_rules|`(mutual $cs* end)=>zM (cs.map (·.raw))
mutual
#check[
λa=>.lst a,List Str,λi=>.int i,List W,λa=>.ref a,by simp,List Spt,by simp,List Pt,λa=>Qa a Qc,λa=>by refine Na a,λl=>.lst l,List Nat,by lia,λa=>.tup a,List Value,by lia,by decide,λd=>if_pos d,λa g=>λa g=>?_,Value->Ϣ,λh=>if_neg h,Qb 1,List V,Qb 0,λy c e=>λy c e=>?_,Option W,λx=>.str x,List (Addr×Obj),Option (W×MH),λk=>.inl k,λh=>(Nd.mp h).1,Inv X pins σ H s,List Mn,λe d=>Qe wIx e d,λc=>List c,Qb 2,Qb 3,.ref 0,λv=>some v,Al p out,λa=>Qa a Qc,λa r=>OpR X a r,λa h=>.nx a h,λa=>mFn Q1 a,List zE1,λe a=>by show zp5 e a,λg c=>(by rw[g]at c;cases c),λa=>.bl a,λa=>wpAny (model prog w) A a Q E s,λx=>RelV x u,λx=>.inr x,by decide,Array Keyed,λi=>by show jx i,λw=>Rw K R w v,List Rm,#[_,rfl],λx=>.inr x,λa=>.ref a,λa b=>PM X a b,λa=>by show jse a,λb P'=>T prog w A E s b P' st,List Expr,sO frN,λa b=>Qe wEq a b,Qb 4,λV=>List (Key×V),mC xG4,a.h X k,λa o=>upd H a o,λt e c=>(by let#[t,e]:=c),λx=>ņ t x,x.2.length,λb g Q=>by intro b s g H Q I h,λa b=>by show absurd a b,λw b=>sO (w,b),sO jl2,Rh K R h H,λa=>by show HV a,Str->vG,λj t f e=>(by let#[j,t,f]:=ĸ e),λi=>.int i,NA _,by omega,λr t=>.cons r t,λa z=>a.trans z,λj y=>#[j,y],λe a b=>(by by_cases e:a=b),(by first|(show ņ g c)|cases c),λi=>sO Į,λc=>by show jx c,GoodP N bs ws p,((k:Int)),List Ln,λg=>.tup g,Qb 5,.ref h.length,if_pos rfl,by omega,λa=>by show jtb a,ý a,λa=>zo a σ,λc d=>wpAny (model X.prog X.w) X.A c d X.xe s,.type "list",λc=>Nv c.symm,λa=>.done a,λa=>ya a,Ĕ i,λa d n o e=>(by let#[#[a,d],n,o]:=ĸ e),λa=>StateT SortSt Sem a,X.calm=true,List Ky,λc=>Nz.mp c,λa b=>CallR X a b,λa=>by show HX a,λa=>QU a,λa=>Qa (Qb 0) a,λe=>Nc.mp e,λa l=>PE X a l,λc=>c σ h,λf b=>@ob _ _ f b,λb=>λb=>?_,λg J a=>λg J=>a,λa=>C9 a,λa=>Qe wIx a (mC zj),λc a=>k R H _ Χ c a,X.A.units+64<cLine,λa b=>mMt "list" Qp a b,Array Value,λw v=>Rw X.K R w v,.lst ws,λt c=>(by let#[t,rfl]:=c),λa=>wpAny _ _ a _ _ s,λa c j e=>thn a (Ú c j e),Option Int,s.2.2.1,.tup ws,NQ _,List Cd,λa=>.dct a,M.map QG,List (Tr×Addr×V),.lst [],out.length<=200,List (Ky×Int),Qb 6,R.ρ n,(λ_ _=>rfl),λk=>lev ls k,λc=>.dct c,λs=>gn M s,λe=>Nr _ e,λb o e B=>λb o e B=>?_,λf l=>mFn f l,model prog w,SortSt->Prop,λa=>mFn ZL a,λr=>(by unfold Rw at r),Qb 7,.ref 0,λa σ b c=>Inv X a σ b c,λo c=>RelV o c,λb o q r=>(by show Bw b o q r;cases q),λm=>(by rcases HN m with rfl|m),λi=>.inl i,Qb 8,λf b=>@om _ _ f b,(λh=>?_),((n:Int)),Ã->qF,xG5=false,Nu _ _,λs b=>s.heap.get? b,NM _ rfl,QM 0,λd=>h.get? d,I.tok _,λa=>by rw[if_pos a],λR' w v=>Rw K R' w v,λx o p i=>θ x H1 I1 o p i,Ϻ h D B,λh=>Ó x h,(ask p out M key q).1,λa=>Ni a (by decide),λy q c=>(by let#[y,q,rfl]:=Bh c),λa=>wpAny _ _ a _ _ _,λe r=>(by let e:=r.length),λV=>List (Str×V),(λ_=>rfl),λx b=>(by rename_i x;cases b),(λ_=>nO),λa b I q h=>(by let#[a,b,I,q]:=h),λV=>Option V,ý n,ņ t c,zo a b,mC zj,.lst ŏ,sq out q,λc=>(by rcases NI.mp c with c|c),Qf s,sO vO,A.handled=nO,by rw[this];rfl,EE p out,Gl X x,λa=>pM a,λa=>by show xD0 a,Ay x,Ext.refl _,λa=>Qe Z3 a (mC (.int 1)),λe a=>(by cases e;show a),ls.map cdL,λc=>.ref c.heap.objs.size,out.map Qf,#[rfl,rfl],λU q=>(by rcases NI.mp U with q|q),λp f g a i j=>(by let#[p,f,g,a,i]:=j),M.length<=100000,λg=>by simp[g],.bl true,λa=>by refine Qj a,λo p d=>λo p=>d o (jz p),List Addr,Nn ?_,λq=>drf h n q,List Int,CxOk c X,λb=>#[rfl,b],λM m l t=>(by let#[M,m,l]:=t),λr=>Nf.mp r,λa=>by show Nn a,λP D=>by rw[P];show D,λe a=>xD3 e a,v=Ä a,mC xG8,Hp->Prop,List d5,λh=>decide_eq_false h,Rws K R ws xs,λg=>#[_,g,rfl],λs=>decide_eq_true s,X.N[i]?=sO x,List (W×W),Ls.length+2,s.2.2.2.1,Vals xs us,λa=>h.set n a,List Env,λh a=>absurd h a,λt=>SV p t,λa=>jI a,Shared->Prop,λb r d=>Zr b λr=>Zq d,GoodP 700 bs ws p,Rws K R ws vs,Rh X.K R h H,λw A f r N=>(by let#[w,A,f]:=r.get N),λq=>(by rcases q with q|q),Nat×Nat,λa=>by refine Nn a,λk=>rem x i k,.inl ?_,Qu k,(by simp at this),Rc p s,H b=nO,λF A f d=>k F _ _ A f d,λa=>.dic a,λo=>o.2.2.1,λe a=>λz=>e a,λa=>jub a,λa=>yb a,λx=>sO Φ,λa b=>by refine thn a b,ů s b=sO o,λh D B=>LsH C h r aN aR aA D B G,λb=>λ_=>Ql b,λh=>(by show i8 h;subst h),skS rfl (by simp),λt c e=>(by let#[t,c,rfl]:=ό e),λx=>(by let#[x,_,rfl]:=zhi),L.map Qf,p[part]?=sO x,λi l=>NN.mpr (ę i l),λZ=>if_neg (N8 Z),λx=>out.push x,Jy e=false,Jc es=true,λh=>I.list h,sO .cell,Ext R R',List Rcd,λb a=>elem' b a,λa b=>ou a b,λc=>sO (Ë c),λg a b v i c=>ň (yH g a b) v i c,_,mUn VX (mC (.int 1)),#[way,part,k,false],λh v c a b=>by show(vD h,pA v c a b h),sO (.ref f),sO (.ref j),λa h=>sO (ì a h),_,ls.map QR,by simpa using this,#[_,_,rfl],s.2.2.2.2.1,λx=>.str x,q<out.length,Keyed->Prop,QbG p out M,Qt st,λq=>λ_ _ q=>q,QN p,λh=>by simp at h,λh2=>sO (.rt v h2),List Stmt,Yd l=true,λq=>by simp[q],λa=>decide a,ls[j]?,λz=>N4.mp z,λe p=>(by by_cases e:p.1=k),λR1=>Ext R R1,_,λb i=>λb i=>?_,λa=>Qh 2 Qk a,λb o e n P B=>λb o e n P B=>?_,λa=>by show jt4 a,λa=>zt1 a,λt c h f=>by show(Ζ,ņ h f),É Ö,Ĕ j,kE\/mw=CS,.ref s.heap.objs.size,s.heap.objs.size+1,(λ_ _=>False),.str wd,Loc X.env.scope x,λb=>(by simp at b;subst b),λz d=>by show ώ z d,λa q=>by rw[Qz a];show q,x≠"__name__",λa=>Nh a (by decide),List (κ×V),x.2[k]?=sO l,((i:Int)),pur w=true,λa b c=>QC Zf a b (QM 0) Vz c,s.toks+1,h++[.lst []],Option Src,m σ h,RelV x v,_,λa=>K.lookup a,((0:Int)),_,.bl b,List En,_,List Fn,λp a=>λp=>decide a,λd=>.dic d,λc a=>λc=>a ,λi=>by simpa using i,λb u e=>λb u e=>?_,λi=>NB _ i,λc=>by simp only[c],λL=>tv L k,λa b=>PMS X a b,λj a=>j b o a e,λc b d=>zp7 c b d,λa=>qr a,List zv,x=Ä a,λa=>Qa (Qb 1) a,tR x=sO c,n::gK,by show lN,List (Ky×jfc),.type "tuple",λm F o l S e0=>(by let#[ad,m,rfl,F,o]:=l.lsAt S e0),λh=>I.tuple h,λκ=>List (κ×Value),(λ_ _ _=>rfl),ws.length<=5,Option Nat,p[i]?=sO x,.inl rfl,.dct [],sO .free,λq=>((nomatch q)),λo=>(by rcases o with z|z),λU=>(by cases U),λb c e=>(by rename_i b c;cases e),Vc e≠0,λq=>.int q.2,.frz ws,List Pl,s∈out,N6 _,λn=>P n σ h,λJ1=>box frN J1,λe r=>(by subst e;cases r),_,.str _,_,Gt p s,λc=>Ny.mp c,λe l=>(by cases e;cases l),λa b=>Qe Vu a b,_,λh1 a=>h1.get? a,k _ _ jt0 e,sO (ξ,h),λa=>by refine ß a,λa b=>by rw[ĳ a];show b,CL b,∀x,qqc,(λz=>jY z),mC qQ,λa=>Value.ref a,λb o q r=>(by let#[b,o,q]:=ό r),xs.length<=sizeLine,by rw[if_neg (by simp)],live src items h,λi d c q a=>by show(ϋ i d c q,a),.lst ws,if_pos Tc,h'[a]?=h[a]?,x="either",Qm (Qb 0),Option Addr,λq h=>(by let#[rfl,q]:=h),_,λa=>if a=true then _ else _,mdS p s,sO (.ref 0),λa=>PlainL bs ws a,[nO,sO 3],λh=>sO (false,h),.tup ws,b.trs[t]?,Ja st,e.kd=.oo,((j:Int)),dI G,Ky×Int,λj=>st.mono j,λM=>WB M G Ls,c=true,.int _,p.map J2,λa b=>Rws K R a b,λc=>NB _ c,λc=>by show c.elim,λc d=>by show#[c,d],λa=>by show xCf a,λc a=>xD2 c a,λa=>É a,by show jRb,St->ϒ,Ď o h,_,[Ŏ D],_,(Wds p).map .str,_,QU (mC (.bl false)),Eg p out out.length,λu q=>(by obtain rfl:u=Value.ref ŕ:=q),_,s.toks+(Qi prog w).draws k,fpL r aN aR aA G,sO (ġ xn4),mC .non,BlkOk X scope cl Nb cp,.dic (fd FD),λa c s=>wpAny (model prog w) A a c E s,λb a=>b.extract a b.size,λe=>(by rw[e]at this;cases this),Ni (Nu _ _) hu,_,by show lN,List (Str×Addr),.bl false,h[n]?=sO (Q0 f),_,λv d l=>λR1 H1 v d l rv=>?_,_,∃r,out=sp0::r,GOk p out M K G,List xve,.type "list",λa=>Nn a,D.map QZ,λr=>r.h X k,λa=>wIx a (.int i) h,((jj8:Int)),EY _ _,i<R.length,λH' a=>Inv X pins σ H' a,_,sO .local,NL e,HOk P w H h,Ext.refl _,λe a=>Rw.mono e _ _ a,_,sO v,sO (.str wd),Qb 9,λh e=>(by rcases HN h with e|e),λg=>absurd rfl g,pure false,Zm ws=true,λz=>False.elim z,zke=nO,(g X k).1,(g X k).2,Option MF,QE _ _,gAt G k,λw=>I.ok.hd w,((1:Int)),QZ q,W->Bool,λq=>.int q.1,List Fc,λh=>LH G Ls h,λt=>V0 t rfl,id rfl,.ref 1,λi=>SqL.of i,λa=>(by simp at a ⊢),λb=>.bool b,_,λz=>NR _ z,λa=>.inr a,#[_,Ű,rfl,rfl],W->W->qF,[Qw p,À ŏ],sO yn,λy n i=>θ y H2 I2 n q2 i,_,Ų a=sO o,Ϲ->zxg,[Ä a],_,ý f,_,þ e m,_,λt i q l e a=>by show į t i q l e;refine a,AD q,λa=>QF 3 a,λH'=>Inv X pins σ H' { s with heap:=h',toks:=t' },Hp->VK->Prop,_,_,Ls++[[]],λc=>wpAny (model X.prog X.w) A c Q E s,_,_,by refine Qs (g:=[]) (by simp) ?_ rfl,N2 jRg hu,λp u o=>p.trans (Ę u o),λa=>Heap.SameBut a s.heap h',(by show se;cases p),mFn Vd Qc,λb k=>λb=>decide (b.1=k),c.sc.names.lookup x,_,run.map Qf,keys.map Qu,λe=>eval e X.env,by simp;lia,GoodP 300 bs ws p,xic<=5,λm=>h.Ns mainGlobals m,λh=>Ni h (by decide),λu c d=>(by let#[u,rfl,c]:=Yf d),K.length<=6400,A.units<cLine,λr a g c=>(r.2 a g).trans c,EP X a b Q,s.head=true,EC _ _,Qm (Qb 1),λe=>i.e c e,hk R F,_,Vals xs its,_,λP D=>by show ώ P D,λg n=>λb g=>(n b g).1,h[n]?=sO o,Option Str,sq out e.1,λx l=>decide (x∈l),.int 0,_,_,λn C e=>(by rename_i n C;split at e),Nat->Addr,PM X a ma,.bl false,λa=>!decide a,Ls++[[]],dP M P,λh=>Ot j f h h',ls[k]?,λe=>eval e env,λd v=>Rws X.K R d v,g.2+2,λb=>h'.get? b,sO w,List MO,R.ρ n,sO o::r,key∈K,_,zD K,λl d a=>k R1 H1 _ l d a,by refine Na ?_,λr=>by rw[<-r.length],λF b a=>Paired F b a,λl q c m=>(by let#[l,q]:=c m),λe t=>PT X e t,λv=>h v NF,_,_,_,_,_,_,λa=>NR _ a,λa=>Qg a,λa=>QS a,λg e0=>(by let#[g,e0,e]:=ĸ e),λt d r C=>(by let#[t,d,r,_]:=jP C),λe c=>(by show ĉ t e c;cases e),Ų b=sO o,V->qE,wd∉ř s,Bool->Ϣ,λb a=>by show(j6 b,a),λA=>À (zR A),λs m j n=>(by show Bw s m j n;subst j),ý b,ý r,Ď w h,λa=>Qe wGt a (mC (.int 0)),sO Μ,rA r key rl jXh (zS v),starEach [a] X.env=[(false,Hr a)],R.map zFa,(by first|show iw|show jg2|assumption),by refine Qs (g:=[]) (by simp) ?_ (by simp),λa=>Nx p #[way,part,k,false] a,fd FD,seqObj "list" vs.toArray 0,λb=>mUn (Jp a "numbers") b,λr z=>by show(uW r,z),h0.length+2,seqObj "list" #[] 0,#[way,part,k+1,false],(n::(B++[n])).map Qf,.lst xs,λt c σ=>t c s σ H _ I h,List (Tr×zXa),λl b=>(by let#[l,b,rfl]:=zhi),List (Str×Value),sO jl2,Eg p out out.length,.dic (dJ p out M Q),s.heap.objs.size+1,λd=>ZM (drf h n) d,wIn true,a.length<sizeLine,_,λe=>by show lX e;split at e,O M xOg out,.Name x pos,λf=>(by let#[rfl,rfl]:=f),#[t,rfl],λa=>(by subst this;show a),Qm (Qb 2),λQ=>by show Nh Q (by decide),done out ia ib,done out na nb,λq' S=>by rw[<-q'];show S,λa=>p5->Q (.ref p) a,wIn false,gH R w met,s.2.2.2.2.2,λb d=>λx b=>d x (jz b),_,sO (.lst (M.map QG)),sO (.int n),QW [0,1],λi g h=>(by let#[i,g]:=NN.mp h),_,_,_,.str x c,by show Nu _ _,_,λg p=>Rw.mono g _ _ p,λg=>by rw[Np,g];rfl,λx r=>Rws.mono x _ _ r,_,λa=>by simp;show JC a,λq=>by rw[q];simp,_,λb=>SqL K H a b,Room k X.A,K7 e=false,gH R w met,λa=>Ny.mpr a,Nr _ e,PE X a ta,PE X e te,λe=>by rw[e];rfl,λa=>Rws K R a xs,PM X o mo,YA o=true,Sg st0 st,hL S G Ls,sq out,λc=>Rst K R a c,λa b=>by show Nh a b,O M n xs,_,sc E S n,Nt d,_,λp j=>SqT X.K H p j,by refine bN ?_,(by unfold th res),λv=>(by cases v<;>rfl),λa=>.Name x a,_,_,K.In h,λa c=>by show Rws.cons a c,λa=>Rh K R' h a,_,_,_,λz=>λz=>?_,_,_,λf=>by simp only at f,λa=>F2 X.K a,λr=>IxR X r,λa=>pyIter a,λj r=>j.tupAt r,λb=>zp7 Mt a b,V1 o,λa b=>by show xDc a b,λi d j a=>xFd i d j a,zR l,[À ((List.range 5).map λi=>Â zxa)],É Ù,[Â i,Â j],(by unfold Qg;show Ο),h'.get? b,_,sO (CA,h),Unit->Ϣ,Bool->ϒ,λa=>ķ a,λb=>some g8,some BB,Nat->Û,λl r=>(by show PN l r;cases l),b∉ch,ý C,ý D,ul a,zz7 z,CL r,ů s l,Ø->TN,MH->Þ,λO=>Ë (zR O),_,AD x,λz r u B n=>(by let#[z,r,u,B]:=jP n),model X.prog X.w,λz=>(by rcases z with⟨rfl,rfl⟩|⟨_,rfl,rfl⟩|⟨_,rfl,rfl⟩|⟨_,rfl,rfl⟩),λe g d p v q=>by show(Bc e g,uY d p v q),λr=>r.length+1,e::es,λa Q E=>wpAny (model X.prog X.w) X.A a Q E s,.bl true,λl d=>gwL p M wd (sO (Qf s)) l d c,_,_,∀a o,jb4->R'.F a=sO o,λb v=>if b.1=k then(b.1,v)else b,SetTable.grown d.size,x.2.map QR,λe a b=>(by show Ě e a b;·subst e;simp),λl=>LineOk bs ws later l,_,λa=>ForInStep.yield a,_,λa=>mMt "list" GS a Qc,_,#[way,part,k,true],_,mC (.str "either"),Rnd p out M wd A n B,_,b.rws[j]?=sO rF,Rw.int _,λe=>by show(show False from e).elim,starEach es X.env,mC (.str "again"),o.data=.set es ep t,sO zh6,sO (.ref 2),_,λc a=>Zv c a,λO=>sO (O.reverse.map cd),_,by kernel_rfl,PMA X (e::es) ms,L.map Q2,((s.part,s.k)),h0.length+3,_,λa=>one a rfl (by simp),A.units+n<cLine,List (Str×Nat),A.units+1,_,λq=>by rw[q];simp,L.map QR,λo b f=>o pos b s f H _ I h,λh=>(by rw[Rws.cons_iff]at h),λb=>Ng b (Nu _ _),λw n p o e=>(by let#[#[w,n],p,o]:=ό e),Option Value,h++[.lst []],model P w,λq=>.inl zgb,a<h.length,λf=>(by show q8 f;subst f),ixS out t,x="again",.ref 1,x::r,sO HC,QZ m.2,((ks FD,X)),MO.dct [],QmQ l=false,sO (as,ns),λh=>(Ze h).stE _ _,λg=>by show Ng g (Nu _ _),λn x u=>IsQ s.heap n x u,λx y d S E=>(by let#[x,y,rfl,d,S]:=Qga E),_,_,_,_,_,_,_,λh0=>.ref h0.length,nx p s,λs a=>Mono p s a,λs4=>by refine Zj (QK s4) ?_,PE X b tb,Ko CX X E,Sg st0 d,λR=>Ends K R D r,λq c=>q.obj n _ c,_,sO (.ref s),dK S,λd c=>d.trans c.symm,λt b=>(by intro t b;simp at b),pure nO,x="or",_,λo=>h.set n o,λa=>eval a X.env,Y5 ?_,List Tr,dG G,λa c=>(by simp;show λz=>a c),b=true,λa=>a.Perm ks,λa=>by refine#[a,?_],((i:Nat)),λu' r'=>by refine#[u',r',?_],Qf t,Fh _,sO p.2,pure r,.ref _,R.ρ x,λa f=>Qc5 X a f b,λk=>#[k,?_],λg=>s.mono g,λq=>sq out q,λr=>SlR X r,λh=>NJ.mp h,_,λW=>List W,[À (zp4 j)],λn=>pL F D C B n,λa b g=>xCj a b g,_,sO (Ë jD9),λa=>by show ß a,.fields #[Ä l,Ry,],λa=>by show Ê a,λg d v=>by show(qM e g d p v q,qL z),λr o n p m l=>by show(ē r o n e,ť p m l n),∀b o,TC,V->ŉ->ŉ->TN,λb z h y=>by show η b z;·show h y z,ů s S=sO o,λi=>by rw[Qy i,Ĥ],λi=>(by let e:b=it:=ø i),λo g e S=>λb o g e=>ug S b g e,qN h0,Ú a u e,((key,xG7)),BK=sO wd,zxf xIh,É Ģ,λl j=>zx7 a d l j,ý t,_,ý p,Ay y,zC7 V,_,zz7 e,v=Ä b,H b=nO,v=Ü x,λI r F v1=>by show(Ž I r,Ž F v1),λY=>ϝ (Q0 Y),_,Ar σ2 h2,mC uD,Mi.blk X scope cl Nb f H2 C fp fi,λa=>((false,Hr a)),λa=>mUn (zxc C) a,λa Q g=>wpAny (model X.prog X.w) X.A a Q X.xe g,_,(λq=>Qf (sq out q)),Qh 1 ZG (Qa (Qb 0) Qc),sO jfd,_,λa b=>lev (ls.map cdL) a-lev (ls.map cdL) b,_,I.hok.fresh (NA s.heap.objs.size),_,O M (jid zJg) out,aW p out M,_,_,λl r=>(by let#[u,rfl,l]:=XZ r),_,_,λb c d g=>(by show iz h;let#[a,xs,b,c,d]:=h;show g),mC qb1,_,_,sc.names.lookup x,λm u=>(by rw[Np]at hw;let#[m,u,rfl]:=ji6),_,.Compare a [op] [b] pos,.frz (ns.map .int),.ref it,(strKind prog w).hash x,_,_,_,_,_,_,_,_,Rw.bl _,xs9\/es.size<=1,_,_,λa=>Qe QbJ a (mC (.int 1)),sO dR,Value->zP5,Ls.length+2,λa=>Qe JO a (mC .non),λc=>beq_eq_false_iff_ne.mpr c,λp=>(by unfold Zm at p;rw[N3]at p),λc f x=>Inv X c f H { s with heap:=x },b w σ h=zkj,λh x=>(Qi prog w).is h x.1 x.2.1,λh g q=>(by rw[Nw,NV,NV];by_cases h:g.1=q),jr A n B j,E5 K (.ref f)=true,mdS p s,t.fits es.size=true,_,_,Cmp prog w A s κ M,h'.length=h.length,.type "dict",((.int ws.length,h)),body σ1 h,Nat->MSt->MH->Prop,Array (Int×Value),λe=>(by let#[e,part,k,head]:=s),sO (.lst (gone.map .str)),mC (.str "end"),L.length<sizeLine,Option (Bool×MH),#[rfl,rfl,rfl],.type T,λa h'=>Q a { s with heap:=h' },mC (.str "or"),.str "most",Binds K fd ps [],sO (!ws.isEmpty),λc=>(by let#[v,rfl,c]:=Yf rw),A.in1.handled=nO,sIx items.size 0 lo,binaryOp .Add,QfV X.K R h d,by simp;omega,X.mg "range"=nO,Wa true,SqT K H a b,λb=>beq_self_eq_true b,_,_,λX=>by rw[QJ,Np,X];rfl,λa=>by simp only[Kb,a],λb=>TyOf K H (.ref a) b,λz a=>λz=>absurd a cM,λo=>ObjOk P w H h a o,.lst _,∃x r,l=x::r,List (Ky×α),_,_,_,Value->Prop,sO (.ref 2),_,A++[n],λR b=>After K R w b Q,(λ_ _=>rfl),_,λa=>.Constant a j pos,λq=>(by let#[rfl,q]:=q),_,_,Gl X "range",_,_,QmN p l=sO j,items[i]?,_,λy=>s.2.1.push y,Heap->Prop,λS=>NG p out S wd e,λr=>IterR X tg r,by refine' E8;intro j,Option Expr,At xs i,Wf E S a FD,KOk p out k,λM t=>wpAny M A t Q E s,tf f 14,λa b=>decide (a=b),_,λe=>Rws X.K R e xs,λL a=>(L++a).map cdL,El _,sO (QN p),.inr rfl,VH st,sO (Z4 a),λd=>Value.ref d,Qb 10,by show Rws.nil,nrm p.1,Wc X.K fin,sO (.lst (Wd.map .str)),sO (.int c),sO (.ref r),λd=>R κ M N lo d,_,(λ_=>?_),arrOf s,stp M p,Cls X.K C,(λ_=>true),λh=>(by rw[Rws.nil_iff]at h),PM X b mb,_,_,QcC kx xs,_,Nat->Prop,_,MSt->Prop,_,E.map (stW p out),R1.ρ j,_,λH=>SqT K H a xs,Dv _ _,_,sO frR,λc=>tS K c D σ H,_,λk n=>Ends.ext k n,_,λi e=>(by rename_i i;split at e),_,.inl rfl,_,sO .non,λh=>(by unfold Rw at h ⊢),λa=>tI K a σ H Q,FN X G a,(λ_=>?_),Vc e≠3,e.kd=.ei,M.map QG,QW [0,1],(λ_ h=>h),.refl _,λs=>tn i s.heap,λh=>sO (.non,h),λI e=>I.cell x c e,List Kv,List Rc,.lst vs,t∈out,e.2∈Q,rkD L j,_,v=.non,λp j=>SqL X.K H p j,λn q=>(by rw[n]at q;simp at q),D1 _,mC w,inW x c,QM 4,λa Z1=>Qo a Z1 20000000,_,Wg a,H p=nO,hk R F,by rfl,λa=>by show#[a,rfl],.frz _,_,sO .ei,tk q 3,x∈bs,λs=>(by rw[Nq,NO,Ef]at s),_,_,λb=>Vals b us,λq=>q.h c X k,_,_,_,_,_,_,λa=>Qgb a.2 s,(by simp[YW]at e),λb g u=>EP X b g Q u s,_,_,sO q.1,λt=>t.2.2.2.1,λn1=>skS rfl n1,_,λp d=>SqT K H p d,λa d p q h=>(by let#[a,d,rfl,p,q]:=h),λu U=>KN (k:=u) U,λu=>Rd H a u,λa b=>PMI X tg a b,λc=>a.size-c,λa=>tH p out a,λQ=>λa s σ H Q I q=>xD5 Q,W->Ŭ,Tt z,ul b,by ·show ß z,λF D C B n=>(by let#[F,f1,f2,D,C,B]:=xH8 n),λa=>ϻ a,lW ns k yL cN Sc Sc xUj di xV0,λz r S I=>(by rw[Np]at z;show A4 r S z;let I:=à S;rw[NO]at *),#[_,rfl,Ç],sO { cls:=Ī,data:=mM },by show(Š r,r),_,by intro t a;show yj a c,by show(xM9,jRb),L.map PB,_,jI (É Ù),zm x3 x5 x6,λa j f=>(by let#[z,a,n,r,j,e]:=Zb5 f),Ao h v c a b,_,sO (À A6,h),[Q0 f,À CK],by show Sk,sO (Ë ε),[Cr,À xIe],λz r u B n g=>(by let#[z,r,u,B]:=Ad n;show Ž g r),ã Ù ϑ,up Å _ Ū,sO (Ř k4),É å,gE zD7,λc q=>by intro x c;show Ż y q c,λA B j g=>(by rename_i A;show ť B j g e),o.cls=jN,_,zU=sO xK,_,vy<cLine,ŗ (k+1),_,g L O,[Â m],É Ŕ,xq++[n],ul e,λi c=>λi=>∃a b,i=c,some c9,Ar σ h,some yG,_,λa m=>by refine a;show Ŧ m,_,cU=sO t,uI=sO c,[À zx],_,_,_,_,_,a∉Cn,ý x,ý d,_,ý S,_,Tt a,ϖ e,ĝ L,_,_,zr h,CL j,jU2 m,λe f=>ϴ e (Ę f z),((ŋ,h)),u=Bv a,_,_,_,_,_,_,_,_,_,_,_,x=Ä l,b∉ex,β->Ş,λQ=>I.pin p Q,λd=>Nt (ź d),λf b=>λf=>∃a,f=b,.int 0,_,_,λa b c=>lT n0 kw r a jR1 b c,λa=>Qe wEq (Qe wIx (Qb 0) (mC (.int 0))) a,λa σ=>Inv X a σ H s,mC xGf,_,λh=>.ref h.length,sq out e.1,Rf qO=jXe::starEach es X.env,Nat×ϩ,typeOf zO=pure xIb,(nx p s).map Qf,Qv mF []=sO (Ţ,[.lst A6]),s.heap.push { cls:=xz,data:=kZ },dJ p out M Q,_,(ixs R).map rf,_,λb u=>Ų b=sO u->zDd,PassesOwn (model X.prog X.w) X.A X.env X.xe,λk b c=>Room k (A.deeper (envOfC b AC s.heap.objs.size f c)),FnOk X.prog X.w X.K X.mg X.base CX k f fd ps sp,ns.map .int,by refine bI (s:=#[way,part,k,false]) ?_,sq out j,Jb (mC (.int 1)),λb=>show ObjOk X.prog X.w H s.heap a b from I.hok a _ f,unsupported "internal:list.sort.merge-bound",.builtin id,.Name x p,[MO.dic nX],λl=>l.map .str,λe=>sO xv4,EE p out,bootBuiltins x,decide (nA<30)=true,λa=>by show Qj a,h.set wl (.lst jWc),λk a=>(Qi prog w).is s.heap k a,λc=>I1.kept (t':=c.toks) fQ,by apply vy+n<cLine;lia,_,_,.dic nX,_,_,_,w.params.followText "set-order",_,λa b=>QV a λ_=>Ql b,_,_,by rw[if_pos (by decide)],λa R s=>codeAny (model prog w) A a R s,gt R i,λa b=>show ObjOk X.prog X.w _ _ _ a from b,X.pn++j,(hI p out M P G Ls).length,λa=>Zt items nO b body a σ h,_,(λp=>sg),_,_,_,(a==sysModules)=false,_,_,(d==sysModules)=false,drf h 40,.type "range",_,λp f d j o=>(by let#[p,f,d]:=Hh j o),I.ok.hd hc,sO .globalImplicit,(A++[n]).map Qf,sO (.int j),FnScope N ps (Qt st),sIx items.size items.size hi,Yo w,(by unfold Qc6;rw[if_pos EF]),H a=sO xcg,(λw=>(w,h)),QF 2 (mFn Vd Qc),.inl qVh,λr=>funext (ļ r),Array (Option Value),#[#[tk,rfl],h],QhS i c (e::es),(pendingOf st).size,(λb o e=>Ś e),by show Nn #[rfl,rfl],_,X.base.get? b=sO o,Binds X.K fd ps ds,its.size<=sizeLine,_,Dfs p met st n out,List (κ×Nat×ι),N1 ..,_,λh a=>How w S T h es ep t vs i a,VV met,λb=>.BoolOp .And b pos,Vis X.env.scope x,Rq p out M wd s s,λb=>.BoolOp .Or b pos,ps.zip us,PMI X tg iter mi,_,_,_,by unfold QH;rfl,_,_,λP T F=>by rw[P.2 T F];show e,nm out.zipIdx,λz=>(by let#[z,g,d,tk,os]:=s),_,h.IsTuple a its,g i j,_,_,_,Array DictEntry,List xta,(nx p s).length,_,eqW a b,_,_,.int i t,((nO,())),λj=>(by let#[o,e,c,d]:=id j),λg=>fs.lookup g,λc=>[c.heap.objs.size],xs.map .str,X.fn x=true,λj=>Vl p j w part k v,λj=>cJ M p wd A n B j,IntsAre vs ns,λb=>(lsW h a).map λws=>b,DicR K R a kx,t.plain=false,Sb.Up t.place,r.1.ps.length,hG G Ls,_,sO (false,[]),NK (NL e),QU (Qb 2),_,QU (mC .non),λa=>(L++a).map QR,_,_,sO (.lst ((ixs R).map rf)),K w.params,.dict #[],_,_,_,Option Nat,i<xs.size,sc E S n,λM=>(by split at M;·cases M),λd=>λh=>(Nd.mp d).2,PlainAttrs T,(λa o ha=>?_),sO (.lst us),_,Zm us=true,bs.length<=5,_,λk v=>IsT s.heap n k v,sO (.lst ((Wds p).map .str)),sO (lnW p (sq out e.1)),sO (plW (sq out e.2)),_,sO (.lst ((nx p s).map Qf)),Qcj cp σ,_,_,hL S G Ls,_,λr=>.cons r .nil,λr D=>(by let#[n,rfl,r]:=JS D),_,K.In s.heap,_,Vals dvs ds,sO (.dT kx),[.ins C []],["program"],0<bs.length,0<ws.length,Ls.length+1,p.length<=3,_,[MO.lst []],_,_,_,c=(nO,()),l.map Q2,_,YF x c.N,_,λa=>(by let#[y,r,rfl]:=Jz a),.int e.1,λa=>by · show a,_,λs=>AllBare s.gens,λd o=>BlkOk X d o Nb cp,λb=>b.map Qu,A[i]?=sO x,#[#[c,]],PMT X a ta,_,_,_,_,_,_,_,(by simp only[YW]at e),_,_,_,_,(by unfold pln at p),by intro _;show rfl,.ref p.2.1,.ty "",["script"],e.fs+1,trQ q,_,_,λQ1 b=>(by unfold Q1 at b;split at b),_,_,_,_,_,vs++dvs,.dic [],i.t c a,pls M wd,PT X a tA,_,T=="list",T=="dict",coLoB c x,[Qw p],Wk FD n L,tvZ D,L++[l],atP es,cd x,λx=>env.kindOf x,[a,b,d],R.ρ x,λb=>(by unfold inW at b ⊢),dcn x.2,_,.str wd,λa=>#[a,rfl],H a=sO o,aa i j p,a.size-1,gL G key,λe=>λ_ _ e=>e,λa=>a.map .str,Qni q,λx=>IsT h n x v,.dK b,_,_,λb=>FR K R fs b,λn=>Rch E S a n,t b H Q,e.1∈S,Cls K C,mi σ h,_,_,R1.ρ j,_,_,_,_,c::x::r,List FM,_,_,_,(by rwa[Nq]at this),_,_,_,x∈out,λq=>q _ (I.hok.fresh (NA _)),_,x="end",_,_,p.map J2,_,QM 6,QM 3,zB K,λX=>PMG X tg b,λw=>drf h 40 w,j<R1.N,sO .ag,Rc p t,((wd,q)),ι->ι,Qu key,λa b=>ItOk K R a b nO,λe=>by show(Nd.mp e).1,λq=>q.lstAt r,by decide +kernel,λi=>sortedS i,λa=>h.all y a,λt=>ixS out t,λy=>(by rw[NO,Nq,Ef]at y),λc=>D.nx a c,_,λh=>N4.mpr h,λh=>.nx σ h,_,λe=>by dsimp only at e,λp=>(by unfold pur at p),λi j f=>(by by_cases i:j<f.length),_,(by show xCe;·cases e),_,Pf l j,λo=>qM v c y E o l,_,_,λA e1 e2 e=>(by let#[#[as,A],e1,e2]:=ĸ e),Te L,_,_,_,λd=>Ŷ x i j d,_,by show Ċ r;rfl,zp8 d,λB m=>by show(Š B,ņ m B),λF=>V5 (o:=Q0 f) (g:=[]) Å F wN ?_ Å pP,_,_,_,_,_,_,(shL M out w).map λq:Nat=>Î jzh,_,_,λa b=>Zd a b Qx,_,rT a b Sd x5 x6 x7 Aq x9 Ap,λq a=>G4 (s:={ s with heap:=q }) e c d Ñ a,Z.map λq=>Î jzg,(by let#[e,m,f,d,l]:=xMg;show xSa),(("numbers",Ä P9)),Ŀ zqb,s.heap.get? b=sO o,decide_eq_false Í,λu=>(by show qM e j i p u q;let J:=zO2),b≠X.env.locals,(λ_ _ q=>Ś q),sO (Â (i+j),h),λa=>by show(Ž g r,xM0,a),λc=>Qgg hc hk hkey ha c jG8,λi f=>PM (Pf i f) elt me,_,#[_,Ű,rfl],zm PD x5 x6,h.get? b=sO o,∀b u,zE b u,(λq=>j (ν q)),λi j d=>by show(θ i k e j l g,xJ4 j d),_,λi j=>sO (ñ jH4,h),u0 b k,[sO (zr h0)],_,w∈ř Κ,by exact õ,sO (Â j,h),_,_,ã Ö Ù,by show Bc v c;apply _,É æ,_,_,Result->Ϣ,_,_,λa=>show zy1 from Na a,_,sO (ġ Au),_,[Ŏ rL,ő],_,_,sO (jv Hk),_,_,_,_,sO (Ë qp5),_,_,_,_,λa b=>show Ň a from Na b,λr u i=>(by subst r;obtain rfl:MZ:=i),_,_,_,zx7 d f t p,if_neg Ñ,É Ą,atI xJ0 ğ,jv a,ny a b,Č d e Q,č xK9 N5,Rg<cLine,ũ fI xRg,E.map gZ,qb2=sO wd,R.map zFa,ν z,ν Q0,Ë a,Ŀ Ù,v5 Ą,zS e,jv zA,λa=>mFn Q1 a,ë qi7 r,v=Ä ŕ,ŀ d xb,K4 a,Tq b,ĝ c,_,_,_,_,ĝ b,ĝ h,Ë b,λa h=>(by ·rw[Õ a]at h;cases h),_,qqe V,ğ-1,CL g,_,_,_,CL o,_,ċ+1,ŵ R a x,_,λl j m=>(by let#[l,_,j,_]:=Ad m),_,_,cI a b,ð f c,_,_,ů s b,_,ů s a,It->ϒ,x=Â i,t∈Ha,zY k a,_,Cu b d,rM h G,λx8=>gwL p M wd yq zBh zBi x8,mFn Q1 (Qa zE8 zCj),[.ins C (lsF (qN h0) yC vt),jW,jW,jW],_,(by refine congrArg (λd=>Ļ d (t σ h)) (fL p);show(ĉ c h p,ST c)),(by subst e;show I1.fpOk (NA _) (gY I1)),B++[n],_,(λj=>((os'++g)[j]?).bind xH3),.Call zP (e::es) [] pos,λd=>tS p out fC zJ6 qo9 d,Q (.ref s.heap.objs.size) { s with heap:=h',toks:=tk },λc p=>by show(zD2,zIj c p),_,_,_,.tup ((Wds p).map .str),.ref wl,_,Qg (Qe wEq (Qe wIx (Qb 0) (mC (.int 0))) mX),λI1=>I1.hok.fresh (NA _),stW p out,_,_,_,_,b++zQ++[MO.lst zy7],λn=>Eg p out j++((nx p zK).take n).map λt=>(j,vM),by simp only[ZM,Nj,e];rw[if_pos jV5],congrArg bind ?_,_,_,_,_,_,λτ t M=>Inv (Mi.blk X scope cl Nb f H2 C fp fi) [] τ t M,_,attributeBase o name X.env (u7 o)=Hr o,_,(by rw[show n+(j+1)+1=n+1+j+1 by show jh0]at this;show this),_,(by obtain⟨f,rfl⟩:∃k,f=k+1:=#[f-1,by lia]),_,_,_,_,F++[zNa],drf h n,_,_,_,X.env.scope.names.lookup x,λa=>PMS X xHb a,λb=>.Call xJg b [] pos,Zb fF,_,λa=>a==sysModules,_,λc a g f b=>(by cases e;show(xQ c,tU a g f b c)),JP (Qe wIx (Qb 1) (mC (.int 3))),[Qw p,QN p,Qf s],λj c=>by rw[show qWb by lia];show c,λs=>(gn M s).map .str,(Eg p out out.length).map (stW p out),λH=>un9 rfl zUb,[Ŏ k4,qG7],λa=>rr p M wd a (n::(B++[n])) nO nO nO nO nO,.seq its.toArray n,LR xK8,λc=>rr p M wd a (n::(B++[n])) c nO nO nO nO,λc=>rr p M wd a (n::(B++[n])) c nO nO nO nO,[Qw p,Qf s],(by repeat (any_goals (first|assumption|wp_step))),_,rawInt ((i:Int)+1),forIn _ _,NS _ zAf,Mi.blk X scope cl Nb S Y C ex pn,mC (.str "pair"),is.map RN,mC qid,_,_,_,HT.sIx xs.length 0 lo,(λb c v e=>a b c v (x.trans e)),_,_,(n::B).map λs=>V1 xt,_,_,.Call (.Name x p) [] [] pos,_,_,_,_,λf a b=>show ObjOk X.prog X.w _ f _ a from b,_,Qa (Qb 4) (Qa (Qb 5) Qc),_,_,_,.dic (fd (FD++xj4)),_,Array Keyed,λc d=>Rs c xLe d st0,_,λd x=>show s.heap.IsTuple ad d.toArray from x,λx y a=>if qA5 then sO a else nO,hI p out M P G Ls,shL M out wd,_,λo i=>.Subscript o i pos,(apos.endLine==cpos.line)=true,(e::es).length,rU p r key bl nO,λg i t x=>(by rcases Za g with⟨i,t,rfl,rfl⟩|⟨x,t,rfl,rfl⟩),_,∀σ H Q,t' σ H Q->t σ H Q,Qh 1 Je (Qa (Qb 0) Qc),c%2147483647*48271%2147483647,λz q=>(by rw[Qz (λz=>zOe q)];show q),_,F9 K mainGlobals x,x.2.map cdL,λU=>(by unfold QcZ;simp only[U,YH,Nj];unfold QmJ),(by let#[as,m,d]:=ό e;subst d),.type "list_iterator",_,λa=>Vf [] a h.length,(kyL p out).map Qu,Builtin.Tuple.tupleExact _,_,e.1.2.map .str,(λ_ _ _ _ _=>(h ..).2.1),#[way,part,en+1,false],_,fd F0,behindInMarks op b=false,by show ze1;omega,_,_,_,_,_,Nh QbV (by decide),(λ_ _ _ _ _=>(h ..).1),(Ze h.2.1).comp h.2.2,b<s.heap.objs.size,out++a.extract c (c+k),_,_,(by ·show#[rfl,λ_=>rfl]),λa=>starEach a X.env,X.A.units+1,_,DctE prog w s.heap d xs,#[r,q.1,q.2+1,false],.type "dict",.bool true,_,_,_,by rw[Og];kernel_rfl,_,_,λo b a Q=>λo b=>wpAny (model prog w) A a Q E b,E5 X.K (.ref f)=true,(by let#[k,hk,rfl]:=zhi),_,(((sIx n 0 lo:Nat):Int)),.int 0 0,items.length<=sizeLine,_,_,s.heap.IsTuple l items,modify (QgM minGallop),_,[("or":Str)],_,_,_,res kp (hk R F) 2,pyNext (.ref it),_,_,Wv R,_,s.heap.IsList l items,b.length=n,tu D v.1 zQ6,_,_,zke=sO (.ref f),(by let#[i,j,rfl,rfl,q]:=h),OS K (.ref f)=true,ps.length=items.size,k.rm.mono h.1,wa (EE p out) k.1,_,_,_,λx=>s.2.2.2.1.push x,_,_,(sc E S n).map Q2,La.reverse.map Q2,_,_,_,_,_,_,_,_,_,_,_,_,_,_,_,_,_,h[n]?=sO (.dct c),λa p=>.nx (a.set i (sO p.1)) p.2,RawD s.heap d es ep,X.mg "enumerate"=nO,a.extract ia a.size,b.extract ib b.size,_,us.length=vs.length,(ask p out M k q).1,∀b∈fp,t b=nO,λβ=>ForInStep β,hg.kind.trans hk,∀u∈us,u∈vs,fd qtg,λc=>c.heap.objs.size+1,(by show jea;cases e),_,ltr qv7,o.data=.dict es ep,b.length<=sizeLine,lO a=true,_,sO (.int size),_,v∈zl9,(by let hl:=rv.length),_,.Dict [] [] pos,fin o n j i C D,by rw[IE,Fg];kernel_rfl,by simp[ch],Ls.length+1,(("__debug__":Str)),λe d c=>s.heap.IsSliceOf e d c .none,_,_,_,_,_,_,_,D.length<sizeLine,_,_,_,_,_,_,_,_,(K w.params).In h,hI p out M P G Ls,_,_,λa=>mem_shL.mpr a,_,_,by unfold gH;simp,.tup xs,binaryOp .Mult,_,_,_,sO (true,h),(Ze h).stE _ _,_,sO (Z4 later),_,_,_,met++[o],sO .non,Qm (Qb 7),PA X (e::es) t,_,_,by unfold Kf;rfl,Gl X "enumerate",(λ_ _ _ _ _=>rfl),bk x,trS s,_,λA b Q E a=>wpAny (model prog w) A b Q E a,.type "tuple",λx=>X.env.cells.lookup x,_,compareOp .In,λm F o l S=>(by let#[ad,m,rfl,F,o]:=qc l S),ForInStep GaS,ForInStep HgS,.t (sh0::shs),λm=>G++qXf,b[i]?=sO x,_,_,by show d xRf e,_,(by unfold Rws at h ⊢),_,_,Kb h (.ref n),_,_,_,_,(gt R i).b,_,jr A n B (j+1),_,_,λa=>Paired a ks its.toList,_,_,_,_,_,λf=>(by let#[ad,g,rfl,p,_]:=f),PI X tg iter wi,_,_,_,_,_,_,_,λf=>by rw[Nw,Nw];refine .cons ?_ f,_,lD a=sO d,setPending st u,[.i q.1,.i q.2],List (List Nat),sO t,sO (Qu (ask p out M key q).1),sO (.int (ask p out M key q).2),_,sO (.lst (J.map Qf)),(GR j c).isSome,VV out,λh G=>MM ek eo h T G,_,_,tb f L,.int i t,_,SqL X.K H a xs,_,_,SqT X.K H a xs,_,H a=sO sZ,NoAttr X.K C f,fs.length<1000,_,_,_,_,_,_,_,_,_,_,_,_,_,_,_,_,_,Slot T name id,_,_,_,_,_,_,_,_,_,_,_,_,_,_,_,SqL K R.F a xs,RawD h d es ep,(λ_ _ _ _=>rfl),#[w,s,true],GrB p out M wd,λa=>.Assign a e pos,tOp r ta tb,λg=>ZM (drf h 40) g,_,λB E=>by rw[ND,<-B];show E,λa=>(by cases e;show .flat rfl a),_,_,l.map (aW p out M),#[_,rfl,?_],_,_,Qm (Qb 4),λf=>Df K (.ref C) f,DctR K R a kx,a.size+b.size,s.2.2.2.2.2.1,s.2.2.2.2.2.2,G κ M N p st,.own x,a::b::rest,λb=>Fun K x b st f fd,PMA X [a] ms,λz=>by rw[z];show NF,λe h=>(by let#[o,e,h,hd]:=id hit),out.push y,λA=>Yh (A.map cdL) [],λl=>LineOk bs ws la l,((K,[])),λx=>Rq p out M wd s x,λc J=>λb o c e=>jD J c,λa=>Rw K R a a,by ·simp[QT,QD,b,a,ch],λt b=>Ny.mpr #[t,b,rfl],(λ_ _=>False),G κ M N p a,ns.length<=n,DGet H a y o,q.gsub a u e,items.drop i,ia+1==a.size,[nO,nO,sO 3],tf f 10,x≠"either",s.head=false,Wt (i+1),0<out.length,λa=>Kd K R h H n v a,λf d=>#[f,iter,d,0],l.map .bl,λj a=>j _ a (N1 ..),(by simp only[ER,b]at h),((f,l+v,t)),λZ v=>by rw[NC Z];show v,A.length<=j,Lc K C=true,Na ?_,LK K C=true,sp vs H Q E,vs[i]?=sO v,ps[j]?=sO p,PMA X es ms,OpM X.K r f,Option Bool,ps.length=n,λP=>(by let#[x,l]:=aj i P),(X i x l).2,(Z i x l).1,λa=>h _ _ (Sg.refl _) a,c out ia ib,minGallop+1,c out na nb,na-1<a.size,λd=>(by rw[d]at this;show this),(ps[i]).2.1,(ps[i]).2.2,(Ze h).star,Ls[i]?=sO l,λV=>List (Option V),λb a o=>ObjOk X.prog X.w b h' a o,λk=>.Tuple es k pos,λW=>Option (HP W),Rw.str _,List Str,by rfl,a.size-1,λP=>P.cast P.n.symm,λc b=>(by let#[x,c,hk,_]:=b.ex),L.map QZ,(nx p s)[c],λH=>SqL K H a xs,λd s=>show d+1<=s from z,a==b,(λp hp=>?_),l.length=n,J.stop i H,Vals vs us,false=true,Ro K R o u,items[j]?=sO v,nrm w=sO k,pln w=true,(by unfold dep at d),Ka ws=true,atKey xs k,ib==b.size,na<=a.size,nb<=b.size,Zw n ks ls,Sb.Ex g h',Mat ls k e,Zm vs=true,p[0]?=sO x,(4-i)*702,(gt R i).w,run.map Qf,b::rest,.rt w h,GT true,R1.ρ n,.lst [],i.t c q,sO (-1),swE E S,w v.1 t,tvZ D k,.ty n,.d n,λl o d=>(by let#[f,fd,F,l,o]:=d.ex),na-1,k+1+i,Option HO,if_pos hk,if_neg hk,PA X es t,Ext R1 R2,tIG X.K b,tI X.K me,λd j z g f r t=>(by let#[d,rfl,j,z,g]:=f.refAt r t),sO "list",body σ h,PM X i mi,PM X e mv,λh a=>DctE prog w h D a,PM X e me,(ps[i]).2,(ps[i]).1,kindOf st,[nO,sO 2],ls[e.fs]?,x.2[s.k]?,n∈ks FD,((q:Int)),((c:Int)),λa q=>(EL _ _ a).trans q,λa g f d j=>(by let#[a,g,rfl,f,d]:=qc j r),.lst us,Qca hu,[e,it],bind _,Uj f m,nx p s,((e.2,e.1)),r x y H Q,by show True.intro,λd I f N J Z=>(by let#[c,rfl,rfl,d]:=KZ I f N J Z),(by simp at this ⊢),QZ one,Nv d,H b=sO u,sO e,J.go i H,λH'=>J.yld i H x H',λg m=>#[o,g,m.1],Room k A,λb=>#[b,rfl,rfl],L.map Q2,Bool×MH,p.1=true,Ny.mp hw,Qf n,Nat->Nat,Yl L n t,.seq #[],pil ls k,.ref q.1,rf i,λb=>Value.bool b,Qdz i,λe=>eval e env,N9 ?_,λa=>O M a.size a,Jj (x:=x),g.2+1,ks[j]?,(by unfold Rw at rv),.lst _,by simp only[ER,b],sO .oo,by rw[Nw,Dh,a];rfl,(by let few:=A.few),Qu e.1,p.1=q.1,.bool b,KV a vs,v=.bl b,((b,p.2)),eqW a x,.ref ad,EI.mp h,ms σ h,tk f 10,m.2∈P,List Fm,sO x,sO (.int 0),sO (.int m),lo+n,λd=>Ni (EY _ _) d,λs=>Ni (NQ _) s,λd=>IsPart d lo,λc=>IsPart c hi,kV k,λp=>q.sub p u e,eqW x y,Yi q,Qf a,Yc e,QK t,i==j,λd=>PA X [a] d,(by let hit:=st.2),λi=>.int i 0,λl r=>Ng (FU l Fx) r,by infer_instance,X.mg x,A++[n],.dT [],R1.F a,Kf a b,sO σ1,j∉js,uniq l,f.ok Z,sO .en,y∈bs,dcn ls,wa M q,a≠aN,a≠aR,gL G k,λt=>PSs X st t,λa h=>wIx a (.int 0) h,λr=>LexA A s r,λf d a=>(by let#[f,d]:=Nd.mp a),λa=>.nx a p.2,λI F=>I.hok.fresh F,λt b=>t.fits b.size,(by simp[plN]at e),λa=>.Assign a e _,λa=>λ_ h=>sO a,[ď,sO Ι,Ϸ w,sO ç],[xN,Â N,À pV,sh],λa=>I.laid (t':=tk) kp ĕ a,[sO ϭ,Ĝ n,Ty],∀b xs,zp6 xD9,by show(P7 j,xH2),#[TD,[]],λa=>(if_pos a).trans ?_,AV t m e l,λi h e=>(by let#[i,rfl,q]:=h;show Ċ e),by show(jva,xX1),ę c a,Ë Mp,some wD,ĺ m=zs8,ŧ i,ŧ h,ŧ d,ü x,cv=sO w,AM a,ī c,ġ f,ϖ a,Tl t,zU=sO u,qkd j,ĝ l,ĝ e,0<j/\zIc,kB m=nO,qfg e,Ë g,ý l,ý I,q5 z,ļ e,ϊ z,q9 f,λa=>by split at e;·show zp5 e a,qWc=zs8,Nat->jT,zzc g,ĺ t=tw,cR I,cD+1,ql8 p,qqe W,CL q,BT+1,Nat×ϩ,[Î Au],jU2 e,[yN,ő],zr H,zr R,Td=sO q,zFj=true,jB L=nO,wl∉Cn,mJ H,b++[f5],(λi=>re),zW6/\zs0,λj=>(List.range j).map λi=>Â zxa,λe a=>by show Ω e a,λc=>H b=sO c->H' b=sO c,λb a c=>ϣ b a c,λr=>show MZ from r,(s.heap.push { cls:=fw,data:=zy3 }).objs.size,λA y=>by show(jMg,ē A e3 y e2);split at y,rr p M wd a jK x6 rJ BL x9 qY7,λa b d c=>DE x a cP BR AC .none kV b pm d c ct,rT a b x4 x5 x6 x7 Aq zI9 x10,rT a b x4 x5 x6 x7 Aq zI9 Ap,mo p M x2 x3 x4 cY x6 x7 nO,(λq=>Î xE9),λu Y U Z M S b=>(by let#[#[ob,u],Y,U]:=ĸ Z;let#[#[ix,M],S,b]:=ĸ U),Obj.mapSeq λ_=>(#[]:Ń),λI c=>#[.bl _,H,I,rfl,ŀ c xb],∀j v w,ù zt0->xOe,I.base.free b o e n a,λa j=>(by let e:b=a.heap.objs.size:=ø j;show gJ),X.s₀.heap.get? b=sO o,sO { cls:=Ī,data:=zEe },∀b o,b≠a->Ϲ->zCh,F.map (λc=>c.1.map jZ6),.inr (ś L U m d),Nat->β->İ xFf,(by let:j=k+1:=Ð;subst this),[Q0 f,À vB,yk O],ã Ù æ,[#[xPc,j,0,false]],λa=>∃i,v=Â i/\a=Â i,λd=>by show(gm d p q,xS4),λd=>(by let#[d,_,p,_]:=jP q;show xYb),λq0 t S=>(by let q0:jn<t:=Ð;let S:(t:Int)<1000000:=Ð),by show(xHe,θ a b i g d h),ã Ö zsh,[MO.dic yy],λe j h1 F I=>#[e[j]'(Ng (Ng h1 (ī F)) (ī I)),Nl _],λi g c=>#[_,_,i.int_eq,g.int_eq,ŀ c vd],Ę l (TW A j L),h'[j]?=sO (jv Zag),[Qw p,À ŏ,À u5],λl=>by show(Š f,qN8 f,Ck u l),by show(xN8,fy c a j b m),ġ [Â d,oW o],ś R1 H1 g f,jU3=xs.length,I.freeC x c e,(jd+qVh*1).toNat,∀b o,Ϲ->zCh,ş Md,λd=>by let:=qz9 d;show Av,λi g=>rT a b i x5 g x7 Aq zI9 Ap,gu=sO u->zDd,(λ_ h=>jY h),[Q0 J,À [qO7]],(by rw[i]at b;show η b c),wd∉ř o,λd=>(Ye h a).bind λc=>(YH b).map λk=>d,ă Ù å,∃u,uM e=sO u,λa=>if zD8 then sO a else nO,fy c a f b xQ9,x.1∉ř Κ,zm PD rG rH,Ď v h1,BE\/vN\/Ho,sO (Ë vq),sO (Ë u5),(λq=>Ç),λa=>by rw[Nq];show JC a,λe A=>by rw[XC,Õ e];show A,PU=CS\/PU=Ae,xB=Pu,Ψ Ù,[Q0 f,ő,ő],ĺ m=Ď x h1,ý j,λa=>CJ a,u0 g q,λr=>(by let#[w,hw,rfl]:=Bh r),ñ (AK xZi),TW l A j,[Ti q,B5 q],∀o,zE a o,Aa y++zzb,ã Ù Ć,ã Ö ϑ,ã å Am,h[j]?=sO jZ9,sO (Ë xOb),[À (dW K)],hk yu mq,zx4 a xZg,Ä (j+1),yP e=sO as,yP d=sO bs,nq zLc n,nq zLd n,(λ_=>ξ),sO (Ë qti),K++[Ź],λx2=>by show Λ z;·show x2 z,λf Y=>by rw[Ò f];show Y,Ų d=sO o,ny o i,j7 z d,kB f=sO v,if_neg Í,by show(Š r,xR2),þ gN xV5,zxf xP1,zxf xOd,by show(Š r,xPe),nJ=sO xZ9,xs.map qa3,d6->j<=cD,lt' x key,lt' key x,[xJj,Â k],sO (ő,h),Ha++st,[Q0 f,ő],Ë xY8,h0++gG,i∈ixs R,Ë xP9,ī g,λa=>Q a { s with toks:=jg },λc=>Ë (c.set j v),λe=>BA e a c q qPa,sO (sh,h),λf t i=>by intro h;rw[Nw,ths,f (π t i h)],Ř xM2,Ř xMb,Ż x a b,λx=>Ng x (ī u),zU=sO zO,by show(A0 h,cT),((ģ,xOc)),Ã->Bool,qja=sO as,g[j]?=zIh,((Ü x,h)),obj=δ s,by dsimp only;rw[zIg],Î [k,x],Unit->Ş,ý xi,jv BU,! uw x g,Ì->Prop,Ë ii,Ë jWc,Py å,Py Ģ,hk yu mq,gE x8,λh1=>(by rw[Nl h1]at this;show Av),λL=>∀l∈L,qZ l,λa=>NK (Ng xL1 a),λx8 x9=>kS p (.lst (M.map QG)) rn yq xF kX x8 x9,forIn ifs true λc r=>if r=true then do let ok <-isTrue c jT9 xIg;pure qhc else pure (v3 r),(a.map λ(n,k)=>if(zx9 n)then xSf else(n,k)).lookup x,λs H M a=>Mi.blk X scope cl Nb s H C M a,λL=>λe L=>wpAny (model prog w) A xGc Q E L,λn=>k==NameKind.free&&qD8&&sJ n==Ae,cJ M p wd A n B i,λc x=>λb o z=>c.sub b o (x.f b o z),λa=>Jp a "numbers",lT n0 kw r PD (sO gV) rG rH,(by repeat' (first|(with_reducible rfl)|((with_reducible refine JX ?_ iC)<;>dsimp only)|(with_reducible refine QI iC)|(with_reducible refine ZE ?_ ?_))),λa=>.ListComp elt a scope pos,uM b=sO o,(by obtain⟨u,x,rfl⟩:∃u x,l=u++[x]:=#[l.dropLast,l.getLast (λz=>by rw[z]at h;cases h),xV9]),λd=>uS k xZd xZe xZf d,(by cases a<;>first|(show lY b;cases b.1;done)|(unfold Xv;rw[if_pos b.1,this];rfl)),(by rw[show UT f v xV1=xJ5 from rfl];by_cases hk:k=f),wpAny _ A.in1 xI9 _ _ s,((match zkh with|è o=>sO o|none=>if zBd then H1 a else nO)),.fields #[.int lo t,.int hi u,.int 1 v,],(s.heap.push { cls:=fw,data:=qaj }).objs.size,bL/\(mB a)=false/\∃vs,jij/\h.DictOf zQ9 a vs,Df K (.ref C) "__setattr__"=sO xK4,(Bk.map Q2).reverse,mo p M tE qMc nO nO nO nO nO,fpL r aN aR aA (G++[((ask p out M key q).1,h.length,[])]),Qh 2 Qk (Qa (Qb 0) (Qa (mFn ZL (Qa (Qb 1) Qc)) Qc)),λa=>mSl a KF jUf,l.set wl (.lst ((Wt++[(ask p out M key q).1]).map Qu)),Rws.pur_mono b ws xs xM6 c,by unfold ixN;rw[if_pos (by decide),if_pos (by lia)];rfl,b++[f5]++[.lst (Bk.map Q2).reverse],(by unfold Qa0;rw[Ec];refine' EJ;intro e _;show qI4),oS p xR5 xZc,(wa (Eg p out out.length) m).map (aW p out M),(λp q=>zUd),w.params.followText "set-order",c.heap.push { cls:=.type "slice",data:=.fields #[g,vu,.none,] },mS p fC qp0 nO nO nO nO nO nO,.fields #[zj7,rawInt (zCa-1),],.Call xO7 (e::es) [] pos,Wd.map .str,(Builtin.Range.rangeSize lo hi c).toNat,λe=>λ_ _ e=>e.elim,λa=>Qe wIx (Qb 1) a,Qe wIx (Qb 3) (mUn VX (mC (.int 1))),h.set bl (.lst zB1),(b.extract k (c-1)).reverse,λg=>res xK5 g 3,Qh 1 Jk (Qa (Qb 0) Qc),(by let:=congrArg List.length H.nm;show Ϯ),Zs (λb o z=>d.sub b o (x.f b o z)) l,res (nP [0]) kN 3,res (nP [1]) nv 3,λx l=>sO (ñ (if g=true then ! uw x l else uw x l),h),λa=>(Qi prog w).keeps a f hd fZ,G++zAi,.seq l.toArray k,Qg (Qe wGt (mFn ZL (Qa (Qb 7) Qc)) (mC (.int 0))),((match h[n]? with|some (.lst ws)=>sO ws|_=>nO)),λj a=>by show jli j;·show a,(λi j=>decide xNg),[.Subscript o i pos'],ED ?_ qe8,Qh 2 QX (Qa (Qb 0) (Qa (Qb 3) Qc)),SH++[MO.dic (fd [(m,0,nO)])],λe=>λo e=>k it (by simp) o e,by show(Γ a b I q h,xPi),λs a g p=>show s.heap.IsTuple a g.toArray from p,by apply(zN7=="do")=true;decide,Qr [Qw p,Qf s] h=sO (V1 xt,h),Nz.mpr rfl,Qa (Qb 3) (Qa (Qb 6) Qc),(λz:Nat=>(vJ z,g z)),[(e.1,Ls.length)],backTo pos qc6,by show lY p;unfold th;rw[Zu f ws p];rfl,(Bk++qBa).map Q2,backToKw pos xOf,.str "grows",mdS p (sq out q),ws.length<=sizeLine,by wp_walk using Dq a,IJ b;show qvj,mdS p (sq out e.1),λb=>aS p dm b,qZi k=true,Qa (Qb 3) xJ9,seqObj "tuple" vs.toArray 0,zZ5+st*(0+(k:Int)),∃j,zbd/\lE/\zl0/\lc=a,fin=Fin.done xQ2,Qg (Qe JO (Qb 1) (mC .non)),Qg (Qe xX (Qb 5) (Qb 2)),sO (.ref R.length),sO (.ref (R.length+1)),a.length+xR3<=sizeLine,(by let#[i,P]:=ai x hm;let#[D,t]:=ae i x P),(s.heap.push (Zb (Yo w))).objs.size,QF 2 (Qe wIx (Qe wIx (Qb 0) (Qe wIx (Qb 1) (mC (.int 1)))) (mC (.int 1))),met++[s],xNh=false,k b o (λz=>a (by simp[z])) e,(xk3 i)\/(xk3 j),λV=>ns.map V.int,λe=>qPc->bindArgs e zK8=pure k9,λa=>Paired (λp q=>Rw K R p.1 zDa/\cU=pv/\Rw K R p.2 q.2.2) a kx,((d.toArray.size:Int)),λg=>#[g.kind,g.failed,g.o,rfl],Qe wNe (Qe wEq (Qe wIx (Qb 6) (mC (.int 0))) qF5) (Qe wGt (mFn ZL (Qa (Qb 8) Qc)) (mC (.int 0))),λa g=>λ_ _ _ q=>JL a λ_ _ d=>JL d λ_ _ q2=>g _ _ _ _ q2,λB a b=>(by let B:ths a b=sO b:=Zu _ _ (by simp)),mo p M uN nO nO nO nO nO nO,ask p out M k,Bl g b=sO o,envOfC b a s.heap.objs.size f cd,Qa (mC (.int 0)) (Qa (mC (.int 0)) (Qa (mC uD) Qc)),λb=>ElemsOf qki b.toList,((part,k)),(by rw[decide_eq_false (λz=>nomatch z)]),DO C s.heap.objs.size,(Xv k ws).map λp=>xV7 ,Qi prog w,mFn X0 Qc,sO (Qf o),x.length<=sizeLine,λh=>(by simp only[Tr.t.injEq,LV,Tr.i.injEq,and_true]at h),.ref q.2.1,gwL p M wd (sO (Qf s)) l d c,N2 (NW (by decide) _) hu,uM b=sO u,λf a e=>(by show Ě f b a;·subst f;rw[Js]at e;cases e;show new),HT.sIx items.size 0 lo,.type "tuple_iterator",[Ti x,.int x.2.1,.int x.2.2],.Name "enumerate" p,(s.part,s.k)∈sx,0<=j/\jaf/\i.natAbs<2^64,Nat×Nat,pS bs ws later size op t k c,.builtin "object.__class__",i _ _ _ q,(ZM (drf h n) ws).map .lst,a.length+rest.length<=sizeLine,xPa=_,mFn Q1 Qc,(by let f:=xB3;let g:=key 1 b rfl),λb=>(a.take b).map (ask p out M k),λf j=>(by rcases Za f with⟨j,u,rfl,e⟩|⟨y,u,rfl,e⟩),λq D m=>El _ (Ng (q▸I2.lt:D<f.heap.objs.size) m),l9=sO xU3,.seq vs.toArray,xs.length+a.length<=sizeLine,(by let#[n,rfl,hn]:=JS e1),.type "list_reverseiterator",Qe Qce (Qb 8) (Qb 4),bS ls xZb,Dfs p [] [sp0] (n+1) out,sO (Qf #[c,part,k,false]),∃t,u=xjg,JA ((k:Int)-1) (-1) k,.ins C xT9,.ins C qp3,(ask p out M k q).2,p.take j,Qk [.ref n,.int m] h,(prw p).map .str,fin gone,λr u i=>(by rw[Rws.cons_iff]at rv;let#[v,r,rfl,u,i]:=rv),by show Ni (Nu _ _) hu,v+(1+rem x i (d+1)),YA (.dic (fd FD))=true,YT (Qa (Qb 1) Qc),Jf (Qa (Qb 1) Qc),[5,6,7,8],p.map λx=>Qc4 tM,(tv L k).isSome,X.env.kindOf x,Rws.th_ok c l ws b us h1 d,min (N-lo) (minRun' N N 0),(λz=>(no _ z).elim),if_pos (d _ _ _ c),CC p out M K G [] D B [] c,m ws []=sO (.ref j,g),(pendingOf st).toList[i+1],.frz (ns.map W.int),c.inn qz5 b,B.sub x c e,w.params.setOrder S ep,(s.heap.push _).objs.size,λa=>(by apply(Ls.map λl=>MO.lst a)[i]?=_;rw[Np,h];rfl),(gwd p out M).map .str,λσ2 h2=>Zt items src b body r σ2 h2,λb=>λa (p,j)=>a.setIfInBounds b p,b.rws++xU6,[(k,h.length,[])],fin qzd,I.tok _,([]:xq4).length,Q nO { s with heap:=h' },#[[xz1,a],[]],SetTable.below t.place c,∀c st,MM qE2,QF 3 (mFn Vd Qc),(λe=>(ek e.1,.ref e.2.1)),e=x\/H e=sO eY,(pendingOf st).toList[i],lev (ls.map cdL) k,qH (met++[s]) st,gH R (w++[o]) met,(λ_ h=>xU1),N.length=ps.length+more,QC fin mi cp b mt me,.cons (a:=p) (b:=q) h t,List.range ns.length,Str.ofString "__next__",by simp at h;show h,by simp only[NJ,FF,or_false,not_or],by show Ny.mpr #[_,h,rfl],rule "list.sort.gallop",.yield xX6,b.extract (c+1) jhc,mC (.int 2147483647),tf f2 26,.str m.1,QZ (part,k),sO lw,λq=>NS _ (NS _ (Xx q e)),λt=>pS bs ws later size op t k c,j<1073741824,Qo t body (f+1) σ h,X.A.in1.units+40<cLine,Str.ofString "keys",if_neg nofun,sO (.lst vs),#[way,part,m,false],λx b=>(by rcases x with⟨t,rfl⟩|⟨b,rfl,rfl⟩),λf=>(by let a:(g==f)=true:=beq_iff_eq.mpr h),E5 K (.ref C)=true,sO (.ct σ2 h2),b.rws.map xba,λt M a=>(by let t:∀q,xf3<sizeLine:=λq=>Ni a (by decide)),(ly E S za7 L).2,sO xRh,.Name x j,ObjM s.heap x dx C mA,.Attribute e f pos,zj9=sO Zah,-18446744073709551616,Xv 0 ws=sO qJ3,below.go xs j f lo hi,<-elem' b ib,<-elem' a ia,b.size-nb,DQ _ (by decide),(O++[x]).map .str,dK (shL M out w),PGs X es qJ2,λI=>λo e=>hk I (by simp) o e,λp q d m=>(by let p:=EU q;let d:xzh:=zkc p m),(bks ls ls.length).st,fin gone (gt R i),λh=>Nh (Nu _ _) h,Qc5 X pins H b,by simpa using hu,#[us,[]],items.size<=sizeLine,d.params.defaults=[],List (Str×NameKind),λY H2 R2 R1 h1 S=>λY H2=>∃R2,zfe/\Rh X.K R2 h1 H2/\Rw X.K R2 S Y,.type "set_iterator",Hi M a b n na nb out,["program","manner"],#[[],[],[]],ls.length-(k+1),QfI p q.1 qR7,(wa M q).map .str,mdS p (sq out q),λi h m p=>(by let#[#[cls,dd,data,i],h,m,n,hd]:=id p),λq e=>by rw[q.len];show lL e,QbS C h (.ref r),mC (.int 7),mC (.int 8),tf (tf q 3) 4,hG G (Ls++[[]]),(λf vs=>YbN f vs),cp.length=Nb.length,λb a=>∃b,zj4/\a=.bl b,compareOp .NotIn,Lo M a b,Hi M a b,(pendingOf st).back?,vs.length<=sizeLine,List (Value×Value),standAt apos.atName,JP (Qb 4),JP (Qe wIx (Qb 0) (mC (.int 2))),JP (mFn Wp (Qa (Qb 6) (Qa (mC (.ty "tuple")) Qc))),[nO,sO 2,sO 3,sO 4],by unfold Qgb;rw[b],L.reverse.map Q2,ls[i]?=sO (x::r),λc=>RelO (fs.lookup f) (c f),λr i=>(by subst z;rw[r]at i;show i),σ.set i (sO v),(hi-lo).toNat,λl=>Heap.SameBut it s.heap l,∀b,P xZa st,λg c=>#[_,rfl,Ur ha hb d g jja],λd=>UN A (q:=e.1) (m:=e.2) d,h[n]?=sO (.dct (tb f L)),r[j]?=sO w,by rw[if_neg (by decide)],z.length<=sizeLine,eval iter X.env,∀b∈P,y b=nO,λZ=>by rw[Nq];show Z,Rws.mono e ws xs d,X.mg "reversed"=nO,λd a=>(by rintro k c d _ _ ⟨f,hI⟩;refine Vg a ?_),k.gl h.2.1,mC (.ty "bool"),["program","spot"],#[[],0,0,false],(("do":Str)),way.map Yi,(kyL p out).length,((ixs R,liv gone R)),λf=>f.get? s.heap.objs.size,λf=>show sO []=sO ks from f,by intro ps xs us e r v,(by unfold GP;rw[if_neg]),Wlk p (A++[n]),f b _ q λz=>z,sizeLine=16777216,.builtin "max",.builtin "len",b.length<sizeLine,List (Key×Value),XG x C L,#[[],rfl,.nil],λa=>QC fin mi cp a mt me σ h,by unfold pur;rfl,putSet_of b t' hd,by simpa using hi,λI H=>k I (by simp) _ H,es.size<=sizeLine,.type "enumerate",mC (.str "do"),sO (0,"Least"),sO (.int op),λe=>(by rw[z,g]at e;cases e),i^j.toNat,λg i=>(by cases g;let#[u,rfl,i]:=rv.one),λe=>e 0 w rfl σ h c,(Qgd kx k).isSome,λh=>SetL prog w h a ks led,λr=>lsO vs.toArray r,λC=>congrArg List.length C,λM=>Ls[g.2]?=sO (wa M g.1),(Qhm h H).get? b,b≠X.env.locals,Value->Sem Value,compareOp .Lt,compareOp .Is,Jh X.prog X.w,(a++[x]).length,Room (k+1) X.A,d.names.lookup y,h++[.dct []],(by rcases below n b with b|b),cl.lookup x=sO c,Qi X.prog X.w,a.size+b.size,["pair",x,w,y,z],by rw[NP];lia,(hG G Ls).length,(Wds p).map .str,GrB p out M a,Q (.ref a) H,λt=>base.Ns mainGlobals t,L.length<=2,#[M,L,h',?_,Y],x+v.2,((Sum.inl a:Key)),((Sum.inr a:Key)),Jh P w,.List es pos,Nv this.symm,Qhm c.heap H,inplaceOp op,Rws X.K R ws xs,List (Str×Int),Gl X "reversed",items.size-0,lo+a.snd.fst,sz-1-i,p[s.part]?=sO x,List (Spt×Nat),λZ x=>Qs (g:=Z) x ?_ rfl,Der p out M k v,run.length-1,λa=>wNe a a h,λa=>h.IsTupleIter it a i,xs=[.ref p],λb=>HT.sIx b.length 0 lo,QU (Qb 4),QU (Qb 1),QU (mC (.bl true)),λy=>env.cells.lookup y.1,JP (Qb 2),JP (Qb 9),by rw[Oy _ rfl];show Nn h,H a=sO (.lst xs),h.objs.size<=a,Array GenState,binaryOp op,((O.length:Int)),Room k callerA,(λ_ _ _=>False),DecidableEq κ,SqT K R.F a xs,Wz ws lo hi,List DictEntry,[.Name x pos'],box frN m ws h,#[_,hS,rfl],G κ M N p st',R κ M N lo st,ns.length-1,mC (.int 5),Nt (Ni p s),ls.length<=900,List (κ×Nat),Qf q.1,sO (.ins C fs),keys.take j,stp M p a s,λm f d=>(by simp only at m hd f d;subst m hd f d),λD S=>(by let#[n,rfl,D]:=Xu S),λf=>(ths f ws).map .lst,.str nm,Value.str x t,a<h.objs.size,TP X a b Q,by rw[N,o],start N vs,w::ws,Rst K R' a σ,upd R.F p o a,Qz (hG a u e),Qe f ma mb,x.cps.size<=i,some (.dic _),some (.dct _),R.N+js.length,Zd t a b σ h,Xh h a 40 d f,storedH_old t,nb-1,QhS i c es,coMo.h X k,["lines","k"],VV [sp0],sO (l.map .s),(ks FD).Nodup,GrW p out M v,by simp;omega,XE H.i rfl,λH'=>HOk X.prog X.w H' h',zj1/\Rw K R p.2 q.2,λn=>Qo t body n σ2 h2,sO (J2 x),.int ep 0,λA L=>QaA (es:=A) (ep:=L) lo,λu f=>#[_,u _ _ f,rfl,_,rfl],λn=>List.replicate n c,.int part,λs=>Chn p s.way s.part,λJ=>by simp only[Ye,J],W.bl true,u=Value.none,hk (R.map (fin gone)) F,NoAttr K C f,us++ds,λd=>.int d.length,W->Option Tr,QD more m,i<x.cps.size,λr d c v=>ZN fin items src b mt me r d c v.2,TabIs es tab,qs.map Yi,MS X Y Z Nat,lo+a.snd.fst,R κ M N N a,f.d=d/\f.x=x,[nO,nO],[nO,nO,sO 5],sO (j,md,en),(λh n hn=>?_),by simp[bks],∀j,kp j=nO,.int en,o∉met,qH met st,m<out.length,λa=>(l.map W.str).mapM a,h'[0]?=h[0]?,Ph E S a n L,l.map rwW,tvZ D k=n,w++nx p o,run.length-1,λj r=>λc v j r=>k c v ?_ r,λf=>Obj.mapSeq f,λa b f c=>I.lset (its':=a++b) f e (by simp) c ?_,λa=>by rw[ND];show Nh a z,λx=>Txt.slice x lo hi,λu=>(by obtain⟨_|r,u⟩:=u<;>rfl),λb=>b.map λp=>kW p.1,λe=>Dfs p met e n out,λk=>(sc E S n).take k,λj=>cJ M p wd A n B j,(by injection e with c _),Nn h,Nn (Nn ?_),H l=sO (.lst xs),Addr×Value,(λ_ q=>q),sO (.str r),frs X.stack,(λi _=>n<=i),(j-i).toNat,OC K C=true,i<vs.length,i<xs.length,n<=sizeLine,l.most=sO n,IY _ _ _,Rws R ws xs,.l n,y.2≠.cell,X.map Q2,by simp;lia,js[i]?=sO j,Qn a b σ h,.int s.part,xs.map f,QR l,QR (x::r),a.map Qf,l.take i,NM _ rfl,Qa me Qc,u.2.2.2.2.1,gallopOf st,ia+1<a.size,failedOf st,((lo,n,0)),(h.loc k).1,(h.loc k).2,.str abc,tk f2 26,Qcf p s.way,λz a=>(by ·let:=Ys (x:=x) (i:=i) z a;lia),by simp[Kf],out.idxOf t,shL M out w,LW j lw L h,aS p a b,tu L k v,key∈W0++b,gwd p out M,xs++a,λe=>λ_ _ _ e=>e,λd=>sO (.ins C d fs),λL N=>(by let:L=[]:=EI.mp N;subst this),λo=>(by intro a o _ _ _;unfold ZN),lo+hi,λn=>.seq items n,Yat s,λf=>λx=>(x.1,x.2.1,f),λa=>by simp at a;lia,λh=>by rw[Ii,h];simp,λw=>GrT p out S wd w,λh0=>by rw[Nq];show h0,rcV R,gR wd,v=.str x c,IsT h n,trk h H,X.pn++pins,j<=1000000,!d.isEmpty,Um I.hok e,(λ_=>nO),by intro _ _;show rfl,G.length+1,h.length+1,a.length-1,.bool true,R.F a=sO o,R.G a=sO o,.frz ws,sO (ws,nO),Qb3 X id f,pur b=true,ma σ h,ms σ h,pln a=true,(by unfold QC;rw[hi,Nj]),below xs j,t.led=true,t.led=Yo w,IsQ h n,s.2.1-1,List Qd.Kv,Yd l=false,λe=>by ·show Nh e (Nu _ _),x.2[k]?=nO,0<sizeLine,hL S [] [],.ref aA,λU l=>(by let#[u,hu,U]:=rv.get l),[(k,v)],λa=>λi s t b a=>?_,#[rfl,q],k.ext g,λd=>sO (!d.isEmpty),λa b=>Cal P w K mg base a x ps b,λd=>(by unfold box;rw[d,Nj]),λZ4=>by unfold Z4;simp,N4.mp i,s.2.1-1,λe=>Ng (NW e lo) hn,.str nm,λa=>#[a.up,a.le],λw=>by show NX w _,key=v.1,Sum.inl b,Sum.inr b,((nomatch e)),JY q c,Mut (H x),Q false s,PS X st t,NS _ z,Int->Prop,i != 0,IH _ _,E2 _ _,ws++us,.ty "",QF i m,pure true,x.cps[i]?,Kh T=true,Vq k T,m<1000000,Array Nat,dep a<=40,i<es.size,es[i].key,Jo rfl,s.2.2.2.2,ib<b.size,λb=>pure (sO b.snd),(by simp only[plN]at e),(by rename_i z;subst z),k.ix i,k.ix j,.Name x _,λg=>g.h _ Za3,(Ze h).ix,[nO,sO 5],top 40,a.fs+1,(by simp only[stp]at e),t+st*b,cdL l=.ot,ls.map QR,Qcf p way,Qbj h1 h2,qH met st,n<=840040,rkD a.2 j,m∈ks FD,Qf sp0,et k,Option Ky,Qu key,W0++Rs,kyL p out,Wv R i,QA 0 5,λR=>Rst K R σi σ,λa=>MSt->MH->Option a,λd b=>(by rw[d]at b;simp only[Zf]at b),K×Value,.inr rfl,k b ob q,b∉X.fs,id I.loc,Vals c d,Int->Int,a _ _,λp f=>s.heap.update p f,QaR c,Rw.int _,mb d p.2,items[i],z▸E,x.ρ n o,XG g l t,XG C F w,T=="int",ms σ h1,Dk _ _ _,.ins _ _,Qcq h,(by by_cases hm:x∈A),.int s.k,Z4 xs,by simp only[lsW,Nj],ks++[x],λP a g=>P a { s with heap:=g,toks:=tk },KV kx vs,Wf n e x,.yield c,c+1+k,n<=ia+ib,Vc o≠2,Vc b≠0,Vc o≠0,s::st,e.kd=.ag,Ln->Bool,cdL l,by rw[List.Nodup,FZ],y="pair",Wds p,trK k,Gr P a b,Nf.mp hw,λt=>I.freeC x c t,λe=>congrArg sO e,λr=>r x lo hi H Q,λg r=>(by let#[v,g,_]:=r.get e),λa=>wIx a (.int 1) h,λh a=>h.IsTuple a items,λc=>(a.size-na)+c,λe=>λz=>Yc e z.symm,λf=>(by let#[a,b,rfl]:=f),λa=>.ref (h0++a).length,Nl a,Nv y,KV b vs,d c _ z,d b _ e,NK u,sO a,sO (.ref h.length),sO (.lst ((jr A n B 5++[n]).map Qf)),λI c=>I.hok.fresh c,.type T,((0:Nat)),Nt g,Nt c,Nt e,Nt (Ni e (by decide)),Nt (Ni (Nh (Nv A) N) (by decide)),Nt (Ni b (by decide)),Nt (Ni I (by decide)),d++c,by dsimp only;split,[(f,v)],YbS _ _,n<R.N+1,Zk n,Jo a,Xv k ws,hr 3,Qf b,Qf (sq out q),‹_›,QqO h n,pure (),.done c,IM _,DR LD _,m<=nrem,lo+n<=N,λa=>by wp_walk;show a,QM 8,QM 9,YU a,ls[fs]?,Ql2 s r,V<=1000,Qw p,.int fs,s∈met,f as h1,hG G Ls,by rw[Ey];simp[QcY],cw wd a,λH=>HOk P w H h',((a:Int)),λd=>by rw[d];rfl,λi c=>(by let#[i,J,c]:=I.look),λH s=>HOk P w H s.heap,T="str",T="int",λr=>#[rfl,rfl,r],λg=>WS (k:=g) rr,λj=>(by rcases j with rfl|rfl),(mMt "dict" KQ æ jZ1) ow h,ň (g d s f H Q I h) c j e,(s.heap.push { cls:=zDg,data:=HW }).objs.size,V5 (o:=xe9 j) (g:=[]) Å e wN ?_ rfl pP,ň xFi c i #[H1,I1,f],by show(yc g e0,ju3,jO m F o l S e0,xEa),[sO ç,bO,Co,tz,zOd,Ĝ c,Ν,cg,nO,nO],by show(Č d o R,xH5,Ŷ J x y r,xV8),(by show(xFe,xE2,jt6 o c);by_cases u:qr4),(by rename_i g;show(ju3,xFj,yd f n J F)),(by let#[t,g,c,b]:=xCi;show ϱ t g c b),q.push { cls:=nN,data:=HW },by show(xPg,jo7),(by unfold GT at e;show(HZ d N M c L J,xDh)),by show(yd c e w q2,Ž L r,jt6 q e),[sO ç,HU,Co,cQ,Ĝ c,Ν,nO],by intro s b;show Bp b j,ń g c->Ť v1 m->Ť c l->xE0,ń l e->Ť v1 p->Ť e o->xE1,#[R,d,h,w,g,f,st,e,xE4],∀(j:Nat) (w:W),xD6,λe d=>ĩ (u7 a) (λv e=>Pz (u7 b) (xF8 d) e),À (out.zipIdx.map zpg),by intro q;show#[iI,zrh],λD l P U m=>(by rw[NO]at *;rw[E3,D]at l;show P4 l z P U;·show yj z m),(by unfold Wa at e;show HZ q D C M B t),[Ϸ d,ď,sO AE,sO Ι],∃a xs,ϐ/\zd9 H/\ϕ,by show(Α A e,xF2,ud y r c),λA=>∀(tk:Nat) (C:yi),xO9->xI1 A,[Q0 cH,À Zac,yk C],Ak g a b v i c,∃a xs,ϐ/\zRg/\ϕ,λc e d=>(by show xXa c;let:=e xYh c.2 (xDi d c);rw[IP hk]at this),(by subst m hw p;show pL x u r q f),(by subst p hw q;show pL y x u r g),by show(HZ d j e2 c i Z,xVf),λi=>(by show xD7 i;·cases ĳ c;show zzj b),∀b o u,zp6 jwg,by split at e;·show zp5 e xDa,by (show jQi;(show(xG0,xCg))),∀x∈O,zs9,by refine xF0;·show xF6,[xXj,sO jO0,Ty],[À (zp4 (j+1))],zpc a d g b,HZ r o n p m l,∀b o,qx->TC,by show xD8;·show xVb,(λz=>l wM),#[f,M,M6,?_],[ď,sO AE,zsb],pL C B A y l,pL Q N M L y,n5=0/\zr9,λS P=>by show xEj S P;rw[NY S,NY P];rfl,by show(AV x y t q,xWg),sO (zth,o::g),sO (À pV,h),yd d v1 x v,Ĉ D wO,λY D=>by show(Mg a Y e1 e2,zEg,ud y D m),h[i]?=Aj vB,[ď,zsa,M7],Nat->Tr->cf,λa o=>ObjOk P w (Ĉ a o) h' a o,(λx c e=>?_),ţ a σ c d,λg=>Pz (f v u) Q g,Ŷ x d f c,λb=>holding [v,b] (u7 i),∀b,xY->tZ,i<2^62/\qp6,by ·rw[Ò d,Ò d];show û,by ·rw[Õ d,Õ d];show û,ů c b=sO o,qng x r,(λ_ e=>jY e),(λ_ z=>jY z),Ĉ T tq,∀R,ń w v,pure (v3 r),ju0/\t D=nO,(λp U=>B0 U),Pf h f,Pf f e,Pq N l M j,zpj I c,Y1 Å B,Â (lo+i*c),by rw[<-this];show ŀ f xb,by show(ju1,ϋ n l i h),by show(ϋ g d e h,xJb),ŵ R1 zt0 v,some (Ř a),λz F=>by show(cB,xTg);·show xF4 z F,#[k,x,rfl],∃b,xY/\RQ,λM f F=>(by subst M;show vD r;let#[z,zs,rfl,f,F]:=r),out.push zJe,out.push zJf,Ah b (Ŋ-1),pure (Ĭ kz),λg1=>#[zCb g1,q.le,xZ3 g1],λc=>by show(jKa i y,BH c z,xQ4),ya zs2,C9 xEb,ya xF5,C9 xDe,ya jx1,λa=>((λw=>match w with|Â k=>Ü a|w=>w)),(λ_ h=>AF h),ñ (uE qUe),λC=>szN (Nt (ź (zK5 C))),C9 xD4,.inl zgb,sO (ģ,xV3),ñ (uE Zbe),o++[ő],sO (ģ,xV4),H++[Cr],(λh=>zR2 U D),((ek e.1,qyf)),MJ->vK->BD,[xK7,vT,vT],sO (Ë xZ6),b++[f5],qr AW,hk yu F,zx4 a x9,sO (Ë xLi),ß (NS _ d),∀h:MH,jVf,ϡ wB,λc e a=>(by let#[ol,b,_,nl,c]:=e;show Ê xI0;refine(show Ň xQa from Na (Iy a hd (x:=Ä l) rfl (show Ň (BJ (Bv l==Value.none)) from ?_)));show xQ0;refine(show Ň xQb from xT8 a);refine(show Ň xQc from Na (F5 b c ?_))),λa=>by show ô a,by show(į a d n o e,#[R,b,h,a,d,j,st,n,xD1]),lW ns k yL cN Sc Sc xE7 di xDf,λd r=>(by refine YaB (Q₁:=λobj d=>zw7/\d={ s with heap:=zz }) F.kt_called_dict (YaQ _) F.entry_dict_init xN3 λobj d r=>?_;show yW r),VI (n:=2) (f:=Qr) (ms:=Qa Ö qj) (as:=mQ) (h1:=[]) (σ:=jH3) (h:=[]) rfl rfl xQ7,xF9\/(zLa b a)\/(zqd a)\/∃x,Pp/\a=Ü x,.inl rfl,by refine xDb;show jQj (CA,h),∀b ps,H b=sO (.tbl ps)->∃more,H' b=sO xDj,(by show xQd;let j:qH8:=ø d;show(zA4 j xE8,xL4)),λa=>by refine ô a,by show į a i o j e;refine#[R,d,h,a,i,m,st,o,zr8],λo c=>by show(Pq J v1 F o,Ž E c,xJi),by show(Hm o b,zA4 b #[_,rfl,Ç],jtb #[_,rfl,Ç]),λb g c e=>(by let#[l,b,g,c]:=id m;show(Ê xGj,Ê xUi);first|show Ê (DS hit.typeIs (qmh e))|show Ê (FC hit.typeIs (qmh e))),I.turnedL (ch:=zgh) xT1 hf (sV e) (zZh n) λb u n e=>by show ð n e,((cp.map λo=>match o with|none=>nO|è j=>match σ[j]? with|è v=>v|none=>nO)),λa=>by show dS a,λb c=>by show(xG6,Ê (Nn (Na (FY b c ?_))),By,Ê (Nn (Na (Ff b c ?_))),By);refine Nn ?_,λl r=>((λfin l=>match fin with|.done f=>R (.ok f) l|.again r=>r.quiet=true/\ff r R l)),show xY7=Î xE5 from rfl,zMe->∀σ h,Ba (n+j)->∃σ1,xn/\∃σ2 h2,zsg/\qx0,∀(k:Tr) (v:Value) (s:Shared) (Q:Int->Ϣ),dh k v->xMc->ò xZ8,λf a=>Ê (N9 (Na (UZ (Na (U8 (s:={ s with toks:=jg }) (xs:=xs) hu c hD f a ?_))))),ł Ą (É xDd),(by show Tp d;rcases d with d|rfl;show jVa h;·show N6 _),ů M D=sO { cls:=Ī,data:=zA1 },(by unfold thO at e;show yl c g d e),λg c d f=>(by let g:s.TypeIs (ý c) "slice":=#[os,d,f];unfold getItem;show qn7;first|show Ê υ|skip),(by let#[d,c,j,i,C,D]:=xV6),rr p M wd a jK x6 xFc BL x9 x10,(by show xR9;let j:qH8:=ø d;show(zA4 j xXg,dS xX4)),λe h=>∀e,P e->∃a,b (enc x) e h=sO a/\P a/\mt a h=sO (t x,h)/\(xVi h),((λj=>match zid,l[j]? with|è x,sO y=>cI x y|_,_=>false)),Q xR8 { s with toks:=jg }->qP jEb Q E,(by simp at n;rcases n with h|h<;>(rw[h];first|show NA _|show Sk)),((λw=>match w with|Î [_,q]=>eqW q zI8|_=>false)),λa=>ŧ a,(by show(B3 J v c,Š d);let#[U,f,_]:=Hh j v;rw[d.2]at one),λl i m=>Na (wpAny_dictFind_heap (s:={ s with toks:=Cm }) hu b f hd l i m ?_ ?_),∀h',xPj->TX d->Q () { s with heap:=h',toks:=Cm },λY m l h=>(by let Y:qcd:=ϖ m;show(Ê (xL3 Y),Ê (Za6 m),Ê (Ob u r l ?_));rw[if_neg (ν h)]),λB h2=>by show(Ê (xZ0 B h2),fe,Ê (show ż xRa from ?_),Ê (YaI B ?_));rw[Y],(by rw[EV (N8 J)]at D;let#[u',r',q]:=xWj;show HB u' r'),(G++zGi).map λ(e:Ky×Nat×œ)=>(zj0,qyf),λa=>I.laid (t':=s.toks) (o:=Î a) jxc ĕ ?_,∀i c st,a<=i->i<b->xh6->Ā (g i c) xSg,mS p x3 x4 x5 (sO qO3) vi vj CZ xp2,ł Ũ (É xEc),by refine xEg;show Ω h xYc,Qe yQ æ xEe,Qe S7 Pv xEf,λG=>∀c∈G,xF1/\∀i∈c.2,CP,(by rename_i i d;show Š r;let#[g,f,_]:=Hh c d;rw[r.2]),by show Α x b;refine xEh,((λw=>match w with|Î [_,q]=>q|w=>w)),by split;·rw[Nq];show Sk,by show(Š r,xEd),(∀b o,Ra->TC)->gP,.fields #[.none,Zba,δ s,xgj,.none,.none,],by rw[ϔ c,Ox,IF,Dx];show Mf b a;simp;intro z,rT a b xg x5 wR x7 x8 x9 x10,∀{ad:Addr} {B:Ø},xd3 B->∃i:Ń,qH0 i,∀{ad:Addr} {B:Ø},xd4 B->∃i:Ń,qD7 i,λj=>sO { cls:=Ī,dict:=nO,data:=.seq a j,slots:=#[] },by show(Cv g,xEi),Oz (.ref f) (.ref y),λb g=>by apply Ň xMh;show(Ê (tupleItemsOf_ b ?_),Ê (DP g ?_),fe),QmW ç xFb xS1,Qce ç (Ĕ n) M8,(by show(B3 b c e,Š r);let#[xs,f,d]:=Hh q c),Rf sK=xF3,Builtin.Slice.sliceAdjust lo hi 1 ū,by first|show ß jL|show ô jL,((λw=>match w with|Î xud=>a|w=>w)),if v<0 then(v+ū).toNat else qF0,λZ=>sO { cls:=Ī,dict:=nO,data:=ja2 m,slots:=Z },Qa Θ jN4,Qa xK1 (É jGi),QcZ vO xG1 xP8,QcZ vO xG2 xR6,sO { cls:=.none,data:=.fields A },.frz o u,s.heap.push { cls:=fw,data:=qaj },(by show(Za9,xG9);let N:v=u:=xO5;show xVg),Nat->Nat->ql9->İ (bC xQh),ł æ (É jGi),yp (ş (É Ũ)),s.heap.push { cls:=fw,data:=zy3 },λz=>λb z=>absurd jzi Å,if zB5 then sO MY else nO,if zB5 then sO (Ņ,h)else nO,if zB5 then sO zw2 else nO,∀k,k∈ks↔∃e∈b.toList,zB9,.seq (f.map (ql8 i)).toArray,QR vP=Î xFa,H++[MO.dic yy]++zQ,Ng jNa (ī F),(λb ob q=>Ś q),#[zV8 d,H,ų,#[jg,Zb4],q],by show(Ê xXf,Ê ql3);apply ż jTf;rw[Ò a],by (show jQi;(funext d;show(ĉ e h d,ST e))),∀(i:Nat) (x:Pt),jU->sN<=QkA i,λh B A z=>(by rw[Eh];show#[h,Ç,λa B b A e=>z (by rw[ĳ A]at e;rw[<-e];show B)]),∀a,MJ->vK->a≠wl->BD,[sO PY,nO,nO,nO,nO,nO,nO,nO,nO],EX OD I.kIn (ϖ g) e Bt h,(by split at e;·rename_i d c;show Ω e Zb1),λf=>by refine#[a,h',?_,by rw[NP,jKh];show f],(λw hw=>by show(A5 x,h x)),λv u r=>#[_,_,v+1,xQ1,u.mapDictKeys _,Io hd _,?_,?_,?_,Sr r],λN S=>Builtin.List.listExtendWith (ý N) MN res,Sy xG3,(by show jYd;let#[a,rv,p,hz]:=jP Y;show bR),(by show jYd;let#[a,rv,p,hz]:=Ad Y;show bR),∀Q:SortKind->Ϣ,xL κ g->xHd,í (ϡ jGg),í (ķ (É (Ŝ Q1 (Qa Θ jN4)))),(by let:=Ym (f:=PB) zsc;show xOj),λj a i n=>(by rw[XC]at j;split at j;·show Α e j;let:=s a y i (j7 e n);omega),(by by_cases z:jd1;·show ß (vA z)),sO (Ë ((xq++[n]).map Qf)),λm=>(by let#[v,o,h3,_]:=iL I2 e;show sz h3 m z),ş jGh,(by intro f a b B C g m;show ml;rw[NP]at g),mS p e d cW cX vi vj zXc a,p.rec .nil λr _ h=>ė Zai h,by apply vy+n<cLine;omega,Nat->qla->İ (bC xQi),Ŀ xFg,decide_eq_false (λq=>jY q),λa b c=>(by show qY z a b;· rw[decide_eq_false λq=>z c];show qme z),k a _ (.inl rfl) e,∀b u,b≠e->Ų b=sO u->zDd,rI0 λi j=>Â (i+j),λn g b=>(by cases(show u=Bv a from d);let#[_,_,n,_,g]:=b),((nO,s.2.1,Ŋ-1,b5 y,0,S9+1)),Ľ i r #[_,rfl,r,Ð],(by let#[x,rfl,_]:=y;show(xT3,xHf)),sO (ġ [Î zN8,zV0,Â k,CA]),∃a h',zGf σ h=Ar a h'/\qi0,G.find? zt2,[QZ q,ξ],[Â q,ξ],show b∈([]:ς)from z,by show(uW f,ŀ b vd),λE=>by refine#[_,E,m,l,rfl,rfl,C,B,xPf,?_];show xI5,(by show zNd;cases e;show(A0 r,Ω v xN2)),by first|show jR|show zG3,Qa xLa (É xJ2),rT a b Sd x5 p x7 Aq x9 Ap,X.env.cells.lookup x=sO c,a.any (u0 b k),by show A0 h;simp;show cT,∀(w a:W),χ w=sO a->qIi,jm c=sO #[jN,dd,qT0,f],(λi H=>i<n/\jMe),λc=>λ(fin:Fin) c=>∃v,zBe/\Ct qw4 Q c,ł æ (É xIc),Qa å (É xLb),mS p e d cW cX vi vj zXc a,∀k v,bQ->∃q∈xS2,xR1,G++[(Ź,h.length,[])],s.heap.Ns X.env.locals m,(by let#[D,t]:=I.base.there b o e a),((D,{ cls:=Ī,data:=zA1 })),(by show(vD h,θ v f d c b h);cases d),by show(se,YO ws p),λU B C D=>(by let#[U,f,hx,dr,B,lo,rr,dd]:=Kr I C hn;show(Š D,xy4 D)),(by show(Za5,fy g d c b j);rw[L0]at c),((nO,cx y,Ŋ,ϛ+1,0,S9+1)),((nO,cx x,Ŋ+1,ϛ,Ax+1,0)),Qa xGh (É ϑ),λb=>(by let#[v,a]:=V8 (L:=D) (k:=k) b;unfold tvZ;rw[a]),(by unfold tv at b;show(A4 e o b,xQ6)),(xq++[n]).length<=2000,(g c z).2.2.1 x c e rfl,ň (vC y a d) i j f,λD l=>(by ·rw[Et (ĝ D)]at l;rw[O7]at l;split at l<;>cases l),by apply Rg+40<cLine;lia,λJ B=>nh J c9  #[zMj B,b.toList,c',hv,qZf],r=sO v/\∃h',TX a/\xLd,#[f,zkb i,Ä S,zkb n,zUg,],[bG c,c.heap.objs.size],((nO,jcg,Ŋ,b5 x,Ax+1,0)),vY n x u->vY n y v->qNi,zWh (λ_=>(#[]:Ń)),ã å jN5,ł å (É æ),ă Ö (jR4 å),Ë [Qf s,Â (zgc+1)],Bj jNi æ,ì (gE zD7) S8,(Z2 jZh jZi) (qR l d) H,λq=>λi h q st k=>st.at (zAa e),by show(Γ a t I7 F z,again I7 F),by rw[m];show jx A,∀n,n<R.N->R'.ρ n=uP,show jTb from VQ c,sO #[xz,nO,xW3,#[]],(uP==sysModules)=false,by show BA o b r x xYi,((nO,Aa x,c+1,d,f,ac,e)),((nO,c-1,d,Aa x,f,ac,e)),(by show yJ l b;let#[la,b]:=a l b),λf e c=>λa f b e=>by rw[ĳ e];rintro rfl;show c f,(by let en:Q2 e.2=B5 e:=rfl;rw[en]at d),(by show(xMd,xLc);let e:=qM5 H),tm (ę b z),#[Â km,H,ų,û,q],(λb z=>ϟ z (o b)),(Str->vG)->cy,f.toks+([]:yK).length,(by rcases Zb9 with z|⟨w',S,N,u,M⟩),λD=>by show(jA E9,Ê (F5 D rfl ?_));dsimp only,[Â t,Â s,Â r,Â d],List (κ×Nat×ä ι),j8 (JY q d) q,qP (u7 yV) Q E,Rf [b]=[Px b],Rf [b,d]=[Px b,Px d],m a h=Ď w b/\cj R b,f a h=Ď w b/\cj R b,.seq ([]:Ï).toArray,by show(Bc x g,Ě j B y),É (í zAg),show qT1=vV from e,#[[Ä l,Ä b],[]],by show Ê zA7;refine xGd;show Ê qZd,(by rw[q]at Z;show č (NL Z) xYj),by show(xWb,xMf,ť C y u A),λf=>by show(Ê (DP (T:="list") (ϖ f) ?_),fe),pure (v3 (nO,qNg,0)),(O++RF).map .str,λf=>sO (Ë [Qf f.2.1,.int f.2.2]),[Qw p,QN p,À ŏ,sP],I1.kept (t':=tk) fQ,f ky xUg,∃u,us=[u]/\ó x,(by let:x≠n:=xSc;simp[this]),Ę m (TW l j M),entryFor_of_tree vo,by rw[<-a];show Ű,a.extract Ŋ a.size,b.extract ϛ b.size,λf m=>#[hg,ß #[_,rfl,Yx ha hb j f m]],ŗ j=ŗ sj->AL≠zih,Qg (ă xqc xU2),if ui then 1 else 0,by show(ð e f,xKe,Zaj),holding [v] (u7 o),show zF2 from r,upd t D (Ë L),by show(r6,h),λt=>(by let#[#[items,t,h1],e1,e2]:=ĸ e),IsTup ai T #[rQ,v,],by show(jWf z f,Š f,qq3),lo+(hi-lo)/2,λf h2=>#[hg,ß #[_,rfl,YI ha hb f SO h2]],(λb d=>Hx/\jVi),qU0/\u3=fA/\zC4,by show xPh;·show(SR,Zaf),1+ϫ (b+1),∀n σ h,Ba n->Bz,λB=>Ni (by simpa[dI]using B) Ñ,À [Î [Â m,qke]],[MO.lst [Qf t,ux]],[.tup [],ux,ux,CA],∀k v,bQ->v.1∈K,(("risen_by",Ä yC)),sO (Ë (dW d)),decide (wd∉ř s),s.heap.IsCell c v,(λb o e n y a=>?_),ļ b,(λb u q=>Ś q),(λh=>a (ν h)),sO (ñ (!KD a),h),b.toList=f.map fm,λq C=>q.2.at λo e=>kh C l (N8 Q),(λ_ _ z=>B0 z),(by let#[r,rfl]:=r;show cn h),ê Ù,ê å,Ŀ å,λa=>(by show jZ l;·rw[f,a]at z;cases z.2),∃L,zQ4/\WK p s L,Ni (zK5 c) Ñ,#[Ç,Ç,Ç,Ç],[sO Μ,ď],AK (i<j),zG0=Ae\/zG0=jX,λe d=>λ_ e=>∃b d,ţ a b d e/\Q b d,∀b∈fp,zK6,(zx9 n)=true,by show Ŵ #[EF,Ç],jW7=Ae\/jW7=jX,by show(BH m l,ϧ v g p r q),sO (ñ (KD a),h),sO (ñ (x==y),h),λf g d=>#[f.non_eq,by rw[Qjo g];show wW],[Â i,Â j,Â c],fk r=Ar a h'/\qi0,(by show xl b;let:=c b.2;show zxj),λd f s q=>by rw[d,Nj];show jV0 f s q;simp only[ZM,f,Nj,N0,e,frN,Em],by show yY #[l,h,g],∃a:Á,Hy a/\bM,#[old,zO8 e g],SK zva c,λg H f=>(by let g:qsj:=NL H;let f:=Nr { cls:=xz,data:=kZ } H),by show jUc;walk_at"mrg",Qe S7 æ xL9,kU [orL],kU [QlX],[Î [w,p,d,b],k],∃x,Zae/\q.2<ċ,λf m a g w=>(by let f:=m.ok part x a;let g:∀l∈x.2,qG3:=λl w=>Jz (f l w)),∀s∈st,ϯ,λj W0=>#[(j::W0).dropLast,xXi j W0,xX8],Qe Z3 jV2 Ą,([]:Ã).length+1=1,(e,ok)∈sx,[ux,Â m,.int 2],λx3=>lW ns k yL x3 x4 x5 x6 x7 x8,.own a,λa=>Un fs ex H (Ĉ a o) h h',I.cne x c e,by show(Γ a j I3 m q3,xM7),λi j=>AK (i.cps.toList<j.cps.toList),(λv _=>v=ξ),ù w->ŵ R' w v,#[g,To f,qm3],λg f=>(by let#[a,e,#[xs,i],q]:=g;show Bc e f),s.mono (Ę m l),sO (Â (i-j),h),(by intro b;rw[Nw]at b;show xl b),λo d=>(by show xp0;let#[σ1,o,σ2,h2,d,g]:=zOh e),λU=>Vals (U.map fm) b.toList,λU c x q1=>(by show PN U r;obtain rfl:xY4:=U;let#[c,rv,x,hl]:=Ad q1),by show Ê xJc;apply xJd;show By,λg r=>ß #[_,rfl,Uz ha hb g r SO],[Tf,3,5,7,9,11],λD o=>by apply xSb;rw[Qbm];show QiS (opk (D x Å) o),λm f z=>(by subst m;let#[a,w,b,c,rfl]:=Qjr f;show xIj z),sO (Ë (mH zt)),Qe yQ Ù Ö,#[_,sQ h,rfl],(ly E S za7 L).1,h0++[xKc,jW,jW],(λk d f=>ϟ d f),∀i s t,jXc gK,zAc s a g p,zAc s i c w,(((zM8:Nat):Int)),#[H,ų,xVd],λa=>λxs H Q=>∃i j,xS3/\Q a H,λi y=>by show(ĉ g x p,ĉ i y q),λa=>upd H1 c.heap.objs.size a,(k==0)=true,f a b h=Ď w c,sO (Â (i*j),h),sO (Â (-i),h),(((zz6:Nat):Int)),show jYa by lia,sO (Â (-1),h),by show ze1;lia,by show(jcd d,fG,xX3),m (Ţ::ws) [o],∃us,o=zgf/\de,s.heap.push mz,by show bV,by show xU4;simp[this],λv=>(Kb h a).map λ_=>(v,h),Cu a (c+k),(λc d=>Hf/\xVh),λE e4=>(by let#[aa,e1,e2]:=ĸ e;show ē E e3 e4 e2),by show zze;lia,[ď,sO ç,zUf],by show xp h g q;·simp[h],Qn jXd jRe,by show(Sf a j n,Sf b g m),d++[À u6],À (F.map ja9),xuh\/wd∈ř o,by show(A4 x a b,A4 y c d),(by let#[g,rv,p,Y]:=jP n),(by ·let:mw=jX:=hk;show Cv k),∀b,Su b->tZ,(by let#[r,rv,p,Y]:=Ad m),Value×Ï->Ϣ,λt=>T4 (S.nofree _ (DW t)),Ë (c++a),(by let e:xW2:=ø j;show gJ),p w=true->qbj,sO (ñ xX2,h),by show xgb;·rw[m,l];rfl,qha=is.length,sO (Â qlj,h),sO (Â qm0,h),kx.map fm,∃b,Su b/\RQ,Qbt B xQg,(by let#[ys,e1,e2]:=ĸ e),∃o,Ϲ/\True,by show(į m u w d e,xJ3),λu=>λb o e=>Ś (u _ _ Sz),ö->ö->İ np,<-Ah b zU2,<-Ah a zf8,MM (RE c xOa),ê Cp,zz8 ϑ,Bj xN0 å,by show xLg;·show q,(by let#[k,hk,rfl]:=Bh C),#[xP7,xOi],vE Ñ,sO (À A6,[]),λv=>sO (Ë [Â k,Â v,zW5]),[À zF9,À Cg],by show zNe;·simp[dI],[sO ç,iy,Ν],Ë (dW b),Ë (dW W0),Py Ù,h.length∉Cn,ġ nT,sO (Qc4 tM,h),σ[i]?=sO CY,I.cell x c e,jy b u e,ug f b ql4 l,ug f b ql5 l,k5 [a],k8 [a],qw0 [b]=Hn,eF [b],my [a],my [a,b],λq I7=>λb q o e=>(I7.pin (b,o) (zIa q)).1,(λi j=>Â km),ϧ v g1 g2 r y,((false,zi8 e)),#[g,f,qm3],TW g f d,TW m l j,((Ü (x++y),h)),by show(xW1,ϱ n g b a),sO (ñ zdb,h),∃a,je/\xQj,π x b h,gallopOf qQc,out++qm5,∃b,qBb/\RQ,by simp[a,b],ã Ą Ć,ã Ù Ą,ã æ Am,ã zz9 Ć,ă Ũ Ģ,by show(xIf,xTa),[Î Au,Â k],sO (Â j,[]),[Î Au,Qf s],[Î qX,Â k],by show zJ;rw[P,QQ,A3,A3,A3],by show SR;rw[H,Q4,A3,A3,A3],sO (À Cg,h),sO (lx,nO,h),[ď,sO ç,a],sO (À zx,h),by show ST o,Z.map zAh,sO (Ä uL,h),[Ŏ (VV [])],qK5<sizeLine,λi=>∀k v,bQ->v∈gL i k,by rw[XC,Ĥ],h0++[xKb,jW],λa b=>LsH C h h0.length (qN h0) yC vt a b G,.ref qcb,a.filter xO3,BK=sO wd,qR xp5 d,by refine QI iC;refine congr m9 ?_;(focus (refine congrArg mU jRa;(show zxe))),λa=>(by let:Qe JO jV3 Cp nB h=sO a:=K3 xJ7 rfl rfl;unfold Qg;show Ο),Zd xGb Ci Qx,sO gV,XD jS3 jWg,Qe xX (Qb 5) (mUn (zxc C) (Qb 2)) (lT n0 kw r PD (sO gV) rG rH) h,λa=>mSl a zL jUe,Zd (Qg zCc) (QU (mC (.bl false))) Qx,(by (refine QI λst=>?_;rcases zLe with _|⟨_,_,_⟩;rfl;(dsimp only;refine congr m9 (fL t);(focus (refine congrArg mU jRa;rfl));(show zX1 t)))),codeAny vI callerA xLf (jT7 i c) c,I.turnedN (ch:=zgh) (t':=tk) (xs:=[.int i,x]) xNf hf hT #[AJ D0,[rQ,v],ė yX (dt r),af],ZC (gwS p M out CZ Hj xg dj (zS e) dk x9 x10) H,(funext λ_=>funext (ļ t)),by show(iz h,h),XD xS7 (Qg (Qe yQ (mSl Ũ zL jUe) (Qb 4))),XD (Qg (ă (ş (Qa (Qb 2) Qc)) (mC (.int 0)))) xGa,QS (mMt "list" Qp (Qb 3) (Qa xHg Qc)),XD (J7 xS9) (Qg xN5),NW (by decide) _,qbf/\zP4/\(∀x c,X.env.cells.lookup x=sO c->c≠b)/\∀p∈jae,p.1≠b,res jY6 qt0 3,((s.heap.update a (Obj.mapSeq λ_=>(#[]:Array Value))).push zBb).push yD,Zd (Qg qba) (QU (mC (.bl false))) Qx,Zd (J7 qB0) (QU (mC (.bl false))) Qx,Qg (Qe wGt (mFn ZL (Qa (Qb 3) Qc)) (mC (.int 0))),Qg xH0,(∀b o,s.heap.get? b=sO o->h'.get? b=sO o)/\zNb h'=sO (zP0 g)/\c={ s with heap:=h',drawn:=d,toks:=tk },Lh (prog:=X.prog) (w:=X.w) xL2 e c qjc (by simp),Lh (prog:=X.prog) (w:=X.w) xKj e c qjc (by simp),(backTo cpos qhb).all qIe&&(backToKw cpos qm2).all xVe,∀t,codeAny (model prog w) A xI7 R s,(by split at e;·cases e;let#[v,u,rfl,i,g]:=Qga rw;show#[_,_,xT6,k R H _ (Ext.refl _) f vd]),(by rw[ND,ND]at this;by_cases t:qr4;·rw[Ku t];rw[show min d.length c.length=as.length by lia,show qhd=true by simp;omega,Iu]at this;show this),.done (sO (Aa y++Cu a d++Cu b (c+1)),Aa y,d,c+1,e,ac,f),Jd yZ qr9 ZC (gwS p M out CZ Hj x5 x6 x7 x8 x9 x10) H,(by rcases z with⟨rfl,rfl⟩|⟨_,rfl,rfl⟩|⟨_,rfl,rfl⟩|⟨_,rfl,rfl⟩<;>rcases w with⟨rfl,rfl⟩|⟨_,rfl,rfl⟩|⟨_,rfl,rfl⟩|⟨_,rfl,rfl⟩<;>first|(show xy4 j)|cases j),(qka h)/\∀a∈fpL h0.length (h0.length+1) yC vt G,h0.length<=a,((zDf:Nat):Int)==0&&Tf==1&&(qfb-zDf)==items.size,((items.toList.drop qn6).take (fE-xS)).toArray,(by show λQ H5 a o c L=>#[Q,f,P,I.trans (p.trans (Ę u o)),c,L,r2,U,ir M (p.trans (u.trans o))]),(xs.drop xSi).take (jU3-n5),Qh 2 Qr (Qa (Qb 0) (Qa (Qb 5) Qc)),mo p M tE qMc (sO (.lst nQ)) nO nO nO nO,((xS:Nat):Int)==0&&Tf==1&&(sIx items.size items.size hi-sIx items.size 0 lo)==items.size,¬xI4=true,(∀b o,s.heap.get? b=sO o->h'.get? b=sO o)->s.heap.objs.size<=h'.objs.size->Q vs { s with heap:=h',drawn:=d,toks:=tk },lnW p (sq out e.1),if(a.any λb=>decide (b.1=k))=true then a.map (λb=>qV b v)else a++jc7,λx9=>qT p out M xg dj (zS e) dk x9,λs b=>λr s=>r=.ok xMi/\OldK b.heap s.heap/\s.os=b.os/\dU s,.builtin "type.__call__" #[.ref C::us,kw],compEnvC scope cl C X.env,λa=>call_list_seq p a z A hd xQf xM8,swapsWith e qY6 pos.line X.env=T5,λA a=>wpAny (model prog w) A xIa a E { s with heap:=s.heap.push mz },ED (Nn #[_,rfl,"set_iterator",_,#[_,NM _ rfl,rfl],slotN.lookup,?_]),wpAny_tryCatch (show wpAny _ _ xO6 _ _ _ from ?_),if zz0=true then _ else _,(drf h 40 a).bind λx=>(ZM fv d).map λc=>(ñ qc5,h),Qg3 hc hk hkey ha hn h (lo:=hint+l+1) (hi:=hint+min o xa7) qb7,plW jX8,#[ok.mod,ok.kind,ok.glob,ok.blt,ok.above,ok.inj,ok.has,ok.cab,ok.hd,ok.frames,ok.stk,ok.exf,ok.bs,ok.bsz,ok.noex,ok.exfs,ok.funs,ok.frf],["enumerate","zip","dict_itemiterator","dict_reverseitemiterator","odict_iterator","itertools.zip_longest","itertools.pairwise"].contains n,∀whole,isTrue a X.env whole=(jW6 a),λm=>G++qXf,HT.sIx xs.length xs.length hi,mMt "dict" KQ (Qb 0) (Qa (Qe wIx (Qb 1) (mC (.int 0))) (Qa zD6 Qc)),λe1 a b=>(by let e1:KA (Ay j) a [Q0 xM1]=sO b:=QdP #[by lia,by lia,xO0]),qP6->Bl g D=sO qgj->jh8 Q (.ref D) g,kS p mn rn x5 xF kX x8' x9,λσ h=>QC Zf yZ [nO] (QM 0) Vz jUb σ h,nA+zH1+xNi<30,(by let:=e (j+1) x (by simpa using l) σ h (mG j c)),Qh 1 Zp (Qa (Qe wIx (Qb 0) (mC (.int 1))) Qc),(by refine congrArg mU (funext λ_=>funext (ļ t))),(by subst C D;rw[YbC,Qd6 I l r t em];show#[.bl _,H,I,rfl,k R H _ (Ext.refl _) l xb]),Jb (mC (.int 3)),Jb (mUn VX (mC (.int 1))),by rw[<-UH rr,<-Ug E];show#[.bl _,H,I.tok _,rfl,k R H _ (Ext.refl _) d xb],tS p out fC zJ6 qo9 d,L2.Loc X.env.scope x/\(kE\/X.env.scope.names.lookup x=CS),K1 xO8 (NQ _) xWd ?_ ?_,λf s q=>(by unfold Qc6;show Ŵ (by simp);let f:xrf:=by unfold Qcq;rw[s];simp[q]),by rw[NO];show d.tup t xId,Qe Vu (mUn (Jp C "numbers") (Qb 0)) (Qb 1),Qe Vu xI6 (Qb 2),Qh 3 ZZ xKh,#[xu6,xu6],.nx (lT n0 kw r (sO (Qu key)) (sO (.ref wl)) rG rH) h',Shared.TypeIs { s with heap:=s.heap.push (Zb fF) } (.ref s.heap.objs.size) "set",(by let J:jWe=sO o:=ha;split at J),λb=>PMI X xTh (.Call zDi [a] [] pos) b,λe=>(by ·let:=e t d;show(Ϯ,Ng this (Nu _ _))),by simp[dep],λc g=>(by subst c;show g),by show b (by show(T3 h z,absurd z.symm e,z)),starEach [a,b] X.env=[(false,eval a X.env),(false,eval b X.env)],Ji qye h=sO (.lst (out.map Qf),h),Qe Z3 (qa9 (Qb 1)) (Qb 4),Qe wIx (Qe wIx (Qb 1) (Qb 4)) (Qb 5),cZ d/\(pendingOf d).size+1=fP,λm=>(by refine#[by show(uW r,z),?_];let m:H1 c.heap.objs.size=nO:=I1.hok.fresh (NA _)),(λj=>(p.2[j]?).bind xJh),kat_one u v (QrL _ A d _ x y u v j g g1 g2 _ _ _ _ xhg),Qh 2 JZ (Qa (Qb 1) (Qa (Qe Z3 (Qb 2) (mC (.int 1))) Qc)),ZK [.lst (M.map QG),Qf s] h=sO (.lst ((gn M s).map .str),h),∀h,Jw [qlc] h=sO (V1 zB7,h),λx7 x8=>kS p (.lst (M.map QG)) rn (sO (Qf s)) xF x7 x8 x9,λa=>do let v <-whole;standAt a.pos;holding [v] qyi,(relabel scope X.env).names.lookup x,if zEf then sO (.non,ϝ (.lst zZg))else nO,#[AS b o e n P B,AS b o e n P B,I.base.free,ś b o e B,I.base.tups,I.base.frzs,I.base.tbls],A.under (.builtin "type.__call__" #[.ref C::us,kw]),λs=>setPending s ((pendingOf s).modify ((pendingOf s).size-1) λx=>(x.1,x.2.1,qib)),Wt.map Qu,λa=>ObjOk P w H (h.push { cls:=xz,data:=kZ }) h.objs.size a,if∃x,x<R.N/\x∉A/\HH=a then H a else R.G a,λs l=>(by rename_i s g;show vL g;cases d;show xlg),Qg xK2,kS p mn rn x5 xF x7 (sO zi5) x9,(by subst e;let#[o,e,c,d]:=st;show#[o,e,λv z=>by rw[d]at z;cases z]),bA∈K/\(k,zF6)∈gL G bA,(by obtain⟨n,rfl⟩:xs0:=qb0),λb=>PI X xX5 (.Call zDi [a] [] pos) b,Builtin.List.listExtendWith (.ref s.heap.objs.size) (.ref r) .none,kS p (.lst (M.map QG)) (.lst (run.map Qf)) nO nO nO nO nO,Qa (Qb 2) (Qa (Qb 7) Qc),Qa (Qb 2) (Qa (Qb 3) (Qa (Qb 0) Qc)),Qa (mC (.int 0)) (Qa (mC uD) Qc),(h.update a qt2).get? a=sO xUe,sq out e.2,swapsWith value xRe pos.line X.env=T5,λb=>compPost (model X.prog X.w) X.A X.xe use Q' (.ref D) C qIh b,Qs (g:=[]) xTb ?_ xVc,λB=>(n::B)[i]?=sO s->(n::B)[i+1]?=sO t->t∈Ha,V3 (Qb 2) (Qb 5) (mC (.bl true)),((false,Hr e)),λm=>λi h m st k=>#[st.1,st.2.at λo e=>k it (by simp) o e],by first|rfl|(simp only[firstArgMember];rfl),sO (Qu v.1),(λz=>a (by simp[z])),(by show λA M a o d p=>#[A,f,x,d,p,N,C,ir w (g.trans o)]),PE X (.Call (.Name x p) (e::es) [] pos) Zb3,mFn X0 (Qa (mC qid) (Qa zL4 Qc)),if c.length+b.length<=sizeLine then sO (.non,h.set n (.lst (c++b)))else nO,by intro n σ h c _;show#[σ,h,by rw[Zt,zG4],c],[.str zed,Qf (gt R i).s,.bl re],s.heap.get? p.1=HE/\H p.1=nO/\p.1≠X.env.locals/\p.1∉X.fs/\∀v,p.2.data≠.cell v,Vf ns [] h.length,wpAny _ A.in1 xPb _ _ _,λa=>Qo zLi a f (lT n0 kw r x3 (sO (.ref wl)) x5 x6) h,Qo jZj Z6 f (gwL p M wd (sO (Qf s)) zBh zBi x8) qCe,n+(r.length+1)=n+1+r.length,gt (Qc3 (R.map zGj) (mdS p s) s) i,λg c i b=>λR1 H1 x g c i=>b,(by subst L hw hK;let#[m,Q,Y,hn]:=hg),beq_eq_false_iff_ne.mpr λz=>absurd I.big xT2,λb=>Qh 3 b (Qa (Qb 0) qd2),Qh 3 VF (Qa (Qb 0) (Qa (Qb 1) (Qa (Qb 5) Qc))),FnOk X.prog X.w X.K X.mg X.base CX k f fd ps xTd,(by ·rw[Kk t];rw[show qhd=false by simp;omega,Fy]at this;show this),tf qbd 8,∀h,Xb [.tup (x.2.map QR),.int k] h=sO (zW5,h),Qa (Qb 4) (Qa zD6 Qc),Builtin.Dict.updateFrom "dict.__init__" s.heap.objs.size (.ref l) [] .none,λy=>λfin y=>fin=.done qhg/\Q (.ref s.heap.objs.size) y,λh'=>(by let h':xN1=true:=h),λa=>(by let A:0<=a%26:=zJh;let q2:a%26<26:=qKi),(λi=>prR (gt R i)),typeLookup xK "__getitem__"=pure (sO (.builtin id)),(by rw[EZ (by let:=(Nd.mp a).1;simpa using this)]at a;cases a),.dic (fd FD),.nx (lT n0 kw r x3 (sO (.ref wl)) x5 x6) h',(s.heap.push (Zb fF)).get? s.heap.objs.size=sO (Zb fF),Value.type "StopIteration",modify λs=>setPending s xP6,ItemsOf xQ5 a its.size,zHa-lev (ls.map cdL) (k-i)+ch sI,VZ (b:=QM 3) (body:=VP) xR7 el,Qg (Qe wEq (Qh 2 Qr (Qa (Qb 0) (Qa (Qb 5) Qc))) (Qb 3)),Qg (Qe (wIn true) (mSl (Qb 5) (Jb (mC (.int 1))) (Jb (mC (.int 3)))) (Qb 4)),Qg (Qe wGt (mFn ZL (Qa (Qb 6) Qc)) (mC (.int 0))),Qg (Qe wEq (Qe wIx (Qb 0) (mC (.int 0))) (Qb 1)),(by cases d;let u:=I.q;show xQe),((wa (EE p out) key.1).map qjj).map Yw,entryOfKey zD5,Ql7 (.int i) (.int j) h=sO (.int zOf,h),Qe4 d f xMa hD,.Call xKa (e::es) [] cpos,Qh 2 Qk (Qa (Qb 0) (Qa qz6 Qc)),Qe Vu (mUn (Jp C "numbers") (Qb 2)) (Qb 0),λb=>Qe Vu (mUn (Jp a "numbers") (Qb 0)) b,QS xL7,((pendingOf st).setIfInBounds i zbb).eraseIdxIfInBounds (i+1),∀h',uH (h++[.lst []])->live d (L.map Q2) h',wpAny _ A.in1 xO1 _ _ _,Qh 2 Qk (Qa (Qb 0) (Qa (mC (.int 3)) Qc)),Qh 2 Qk (Qa (Qb 0) (Qa (mC qb1) Qc)),((wa (EE p out) key.1).map qjj).map Yw,λb=>Eu ET b.typeIs entry_tuple_getitem ?_ xSd,Paired.mapP c λa b z=>qnj e,.fields #[.int lo t,.int hi u,.int c v,],#[i.toNat,by show(FI jk7).symm],.int 4,mdS p (sq out e.1),Paired (λp q=>zUd) a kx,OQ kind_sorted plain_sorted entry_sorted xW5 ?_,((EX Ybn I.kIn (zhc g m) e (λz=>nomatch z) h)),by rw[ND];show Ng xL5 (Nv hl),Nh (Es im _) (Nv (E1 SO)),λb=>QaS b RY zN3 (a.h X k) rfl h.2.2 xmj z.2,Qe wNe (Qe wIx (Qb 5) (mC (.int 0))) (Qe wIx (Qb 4) (mUn VX (mC (.int 1)))),Qe wNe (Qe wIx (Qb 6) (mC (.int 1))) (Qe wIx (Qb 8) (mC (.int 0))),Qe wNe (Qe wIx (Qb 5) (mUn VX (mC (.int 1)))) (Qe wIx (Qb 4) (mUn VX (mC (.int 1)))),λM z J y=>rT (.lst ii) (.lst [.int m]) M z J y nO nO nO,tf zI6 6,(by show pe I;refine#[G.map (·.1),I.all,λh=>?_]),b∈X.ex\/X.s₀.heap.objs.size<=b,Zs (λb o z=>d.sub b o (e.f b o z)) l,ForInStep.done xS5,MO.ins C [("numbers",.ref (h0.length+1))],me qhe h=sO qv1,b++[.dic nX]++[.lst (Bk.map Q2).reverse],lT n0 (.lst (keys.map Qu)) h0.length nO nO nO nO,(List.range 5).map λi=>W.int (cJ M p wd A n B i),Value.ref (s.heap.objs.size+1)::zV7,FnOk P w K mg base CX0 k f fd ps xUc,if neg then ! iY else iY,starEach (e::es) env,Qe QbT xOh (Qb 2),mS p (sO (.int j)) qp0 nO nO nO nO nO nO,shL M out w,I1.laid (t':=c.toks) (λb u e=>Ś e) (NA _) ?_,(b++[MO.dic (fd F0)]).length,(λR1 H1 v f d rv=>k R1 H1 _ f d xUb),s.TypeIs (.ref I) "set_iterator",∀h:MH,ZG sD h=sO (.lst (out.map Qf),h),(wa E g.1).map (aW p out M),.Call (.Attribute o name apos) [] [] cpos,Zs (λb o z=>c.sub b o (x.f b o z)) d,ZF (λb o z=>c.sub b o (x.f b o z)) d,ZF (λb o z=>d.sub b o (x.f b o z)) l,Qkl (.int i) (.int j) h=sO (.int (i/j),h),Qec (.int i) (.int j) h=sO (.int (i%j),h),Qa (Qb 5) (Qa (Qe wIx (Qb 7) (mC (.int 0))) Qc),Qa (Qb 3) xKi,Qa (Qb 5) (Qa (mC (.bl true)) Qc),(λj u p h1 h2=>d4 j u p (by simpa using h1) h2),∃L,zQ4/\WK p #[way,part,k,false] L,λu d a Q=>λu d=>wpAny (model X.prog X.w) X.A a Q X.xe d,(s.heap.push Dm).push zD3,KA (.int i) (.int j) h=sO (.int (i*j),h),(λi j=>decide xS6),lev (ls.map cdL) zf9-lev (ls.map cdL) (k+1),qCa=sO (.lst (L.map Qf),h),(by obtain⟨g,rfl⟩:∃g,f=g+1:=#[f-1,by lia];let v:=hL.tru),Qq1 rfl rfl (by simp[dep]) (by simp[dep]),R qk6 { s with heap:=h',toks:=tk },LexA A.in1 s xRb,jhg/\jhe/\xTj=true,Qe Ql7 qz7 xT5,#[b.trs++[(k,k,k)],b.trs.length::b.st,b.rws++[sO b.trs.length]],I.set rl (.lst qmc),Kw C (lW ns k x2 x3 x4 x5 x6 x7 x8) h,λb=>if b then 1 else 0,Inv (Mi.blk X scope cl Nb f H2 C fp (X.pn++j)) [(D,{ cls:=.type "list",data:=.seq l.toArray k })] Z t M,r=.ok xMj,Nh Yj (by decide),yS mn xp3 xp4,attributeBase e f X.env (eval e X.env)=Hr e,by size_fits,tf (tf zb1 bs.length) bs.length,(λG Ls=>by rw[WN];show Ng (by decide) (EC _ _)),y.length<=sizeLine/\k=(qD1 y),.Assign xU9 value pos,Xv 0 (.ref n::ws)=sO (.ref 0::ws,[n]),Qh 2 Xs (Qa (Qb 0) (Qa (Qb 2) Qc)),Qh 2 QX (Qa (Qb 0) (Qa (Qb 5) Qc)),Qh 2 VA (Qa (Qb 0) (Qa (Qb 3) Qc)),Qh 2 VN (Qa (Qb 0) (Qa (Qb 1) Qc)),Qh 2 Ji (Qa (Qb 0) (Qa (Qb 1) Qc)),.Call (qH6 p) [a] [] pos,λh'=>IsEnum h' (s.heap.objs.size+1) s.heap.objs.size 0 .none,.str "grows",λH d=>H.frame λa y=>by rw[Qy d,if_neg λz=>wf (by rw[z];show y)],(La.reverse.map Q2).length+(Bk.map Q2).reverse.length<=sizeLine,(by ·let#[_,_,_,_,o,_,_,e,d,_]:=xq2;show#[o,e,d]),λh g=>(by intro h;let g:k∉xs.map (·.1):=not_mem_keys_of_get h;let en:=atKey_none_of_get h),(by let#[o,Z,ab,q]:=F;show xUf),(λb p=>GH b p.1 p.2),∃x r,zM4/\(ls.map cdL)[i]?=sO sI,(by rintro⟨a,b,c,d⟩;show#[a,by lia,by lia,d]),Df K (.ref C) "__init__"=sO (sO (.ref f)),HT.sIx items.size items.size hi,tf (tf zb1 bs.length) bs.length,a.Nodup->xW8->a.length<=b.length,Wx rfl (by lia) xR0,λm l=>EqAt A.in1 s m l kv,λe=>by rw[e];show zh3,DctE prog w h' d xTf,Zz [.frz (ns.map .int),.int k] h,Xh [] zT4 40 rfl (by simp[dep]),mFn Q1 (Qa (Qb 1) (Qa (Qb 0) Qc)),mFn Q1 (Qa (Qb 0) (Qa (Qb 1) Qc)),Z.map λq=>(trQ q,QZ q,zV3),SH++[MO.dic (fd [(m,0,nO)])],((ks FD,[])),wpAny M A (qCi u) Q E s,xRd=false,y.size<=sizeLine/\k=xU8,.ListComp l [zb7 n d] c pos,.ListComp B xTe o pos,(λp q=>ŵ R p (.ref q.2.1)/\nrm p=pv),reverseSlice' (zVg-(a.snd.snd+1)) zQi,Xm d st 0 1 h bW (by simp),xj3=ups (ks FD,X) d7,(λq=>(xv2,zSh,W.int q.2)),attributeBase e f env (uJ e)=zi8 e,(λb o e=>a b o qNh qJd),(λb o e=>y b o xRc Zab),hD.at λo e=>g D o (by simpa using m) e,seqObj "list" us.toArray c,s.heap.IsRevIter r d xVa,K3 rfl xP0 N,wpAny_mkInt (Nn xXd),(λo tk k=>xTc),newExc xT0 [],.builtin "sorted",Vn [Qw p,jci] h=sO (.int j,h),λx3=>lT n0 (.lst (keys.map Qu)) h0.length x3 nO nO nO,Z2 (Qg (Qe wGt (Qb 5) (mC (.int 0)))) (Qg (Qe wGt (mFn ZL (Qa (Qb 3) Qc)) (mC (.int 0)))),backTo pos xT4,(assignEach es X.env).length,starEach (e::es) X.env,ForInStep.yield ok,d.length==c.length,sO w::caps,Vf ns qQ2 h.length,.ret .none,Value.type qTj != qTb,Value.ref (s.heap.objs.size+1)::us,mUn (Jp a "risen_by") (Qb 0),P (n+r.length) a h',xY9::qxg::F,[.tup qZc,zY9,jh4,.bl s.head],(λ_ _ _ _ _ st h=>let#[_,g]:=st.2.1;Li g h),λu s=>lT n0 kw r (sO (Qu key)) (sO (.ref wl)) u s,call (.type "dict") [.ref l],call (.builtin "sorted") [.ref l],compareOp op,(by unfold ixN;rw[if_pos (by lia),if_pos (by lia)];simp),λf2 E=>#[(f2 b E).2.2.2.1,(f2 b E).2.1,(f2 b E).2.2.2.2.1,(f2 b E).2.2.2.2.2],∀m st',1<=m->jkd->zSa->P (sO m) st',power' size (2*e+d) xZ2 size,(by let#[a,_,o,_]:=id j;let#[b,_,m,_]:=id g;show tup o m),.int 6,KQ (.ref 1) [.int n,.lst []] h,λx=>(by let x:Zm [Qw p,.lst (M.map QG)]=true:=xj9),hA[n0]?=sO (.dic (dJ p out M Q)),o.data=.seq b n/\b.size<=sizeLine/\Vals xs b.toList,(by let f:c.toArray.size+a.toArray.size<=sizeLine:=by rw[ND,ND];lia),c.natAbs<1073741824/\Builtin.Range.small i j c=true,YT (Qa (mFn ZL (Qa (Qh 1 ZG (Qa (Qb 0) Qc)) Qc)) Qc),VM [] _ 40 VG (Nh Yj (by decide)),BindsTo s fd qIf [(x,u)],ED (Nn #[_,rfl,Nn h]) a,λC g J=>(by let hz:(QaB C g c J).length<=sizeLine:=by let:=Yu (kx:=C) (k:=g) (b:=c) (v:=J);lia),λm=>(by unfold wa;rw[Oc,DG];intro m g;show Hw h (by rw[<-z];show a m g)),show n::(B++[n])=(n::B)++[n]from rfl,by show NL (show h.get? a=sO _ from x),λc=>((λa u e z=>by let:=zah;rw[z,c]at this;cases this)),mUn (qjg a) (Qb 0),ZM (drf h n) ws,λt x M z B=>(by cases t;let#[d,rv,x,M]:=I1.list z;let B:=rv.length;refine call_reversed_list x.isList ?_),by simp[c,N8 C],λg f c=>Qj (Zv g (Qj (Qqf hc (f.kind.trans hk) xze (ha.at g) λlt=>?_))),Sg.refl _,(by let#[_,its,e,o,j]:=d;cases e;let#[_,its',e,m,g]:=u),λa=>Jp a "askers",mC (.ty "list"),g.2+2<(hI p out M P G (Ls++[[]])).length,ask p out M key,(hk R F)[1]?=sO (.lst qOf),by rw[I.ok.glob];show I.mod.glob.keeps I.bk,Qe wLt (Qb 9) (mC (.int 3)),Qe wLt (Qb 9) (mC (.int 6)),by rw[Zn];show JC xZj,Qs (g:=[]) (by simp) e (by simp),.ok (.ret .none),Builtin.SmallTypes.nextOf (.ref it),(r++[("or":Str)]).reverse.map cd,b.st.reverse.map λ(t:Nat)=>W.ref (t+2),λh=>∀a,a<h0.length->h[a]?=h0[a]?,Qc3 (R.map (fin gone)) o s,(λq y=>xW6),λg=>λb o g e=>eb b o g e,.tup [.int 0,.non],by rw[<-(rel.val k).isSome_eq,<-l];show h _ (I.tok _),(λ_ _ _ q=>Ub xg2 λ_ _ c=>j _ _ _ c),(by rw[ND]at this;rw[show as.length=f.length by lia];show this),strKind prog w,(strKind prog w).is x (.str x c)=true,λi y u f=>Ds (Na (FX (s:={ s with heap:=i,toks:=y }) (zUi u f) ?_)),yS (.lst (M.map QG)) nO nO,if xvi<6 then xvi else 6,Na qof,NK (Ng (NL e) I.ok.above),NK (Ng (NL e) xPd),λe=>λa b z=>#[Rw.mono e _ _ z.1,z.2.1,Rw.mono e _ _ z.2.2],mt (sO w::caps) h=sO (p w,h),λp=>λ(p:Nat)=>rawInt p,MS X Y Z (Nat×Nat),MS X Y Z (Nat×Nat×Nat),(by cases h<;>(apply(_==_)=false)<;>decide),lnW p (sq out e.1),VZ (b:=QW [5,6,7,8]) (body:=ZC) rfl x,h[wl]?=sO (.lst (Wt.map Qu)),λe=>ZN fin items src b mt me qGc d e h,(is.map (Wv R)).filter jaa,(by generalize W.lst (M.map QG)=X at o ⊢;simp[o,Vq]),λg d a=>G4 (s:={ s with heap:=g,toks:=tk }) (n:="range_iterator") d rfl rfl (by decide) a,if j>i then j else i,if j<i then j else i,∀vs H Q E,zbh->qPb,keywordEach [] X.env,by rw[d.isEmpty],λd c=>(by split;·let:0<=d/c:=Int.ediv_nonneg (by lia) (by lia);omega),(a.extract k c).reverse,congr (congrArg bind ?_) ?_,(x++y).cps.toList=x.cps.toList++y.cps.toList,(by simp only[stp,kst,Nw];by_cases h:iE<;>simp[h]),hB zKg ls.length,h.set wl (.lst (Wt.map Qu)),h.set wl (.lst (dW W0)),(Rs++[v.1]).map Qu,∀a k,xBh->k∈K/\T k<T a,λe=>by show(beq_eq_false_iff_ne.mpr e).symm,c=upd H T (.tup [.int i,x]),by show se;unfold pur;show ZR ws p,λe=>Nn (Na (Ic e hd ?_)),Ybd _ (by show lN),λL=>(by intro k;let W:=YaO (prog:=prog) (w:=w) (A:=A.in1) hh I l L items),λc=>kx.foldl (λb p=>GH b p.1 p.2) c,λs L J I H=>(by rcases zib with⟨rfl,s⟩|⟨rfl,s⟩|⟨rfl,s⟩|⟨rfl,s⟩|⟨⟨L,J,I,H⟩,s⟩),(hI p out M P (G++[(e.2,Ls.length)]) (Ls++[[]])).length,moI (mdS p (sq out q)) k.2,λq=>Rch (Eg p out out.length) [] 0 q,letOwnedTupleGo tg (.ref it) u,sIx items.size 0 lo,(by try with_reducible refine N9 ?_),(if a then 1 else 0)==b,a==(if b then 1 else 0),(EG ..).symm.trans (q4 h1 h2),λd c=>∀d,P d->∃c,xqd/\P c/\qH2,(hG G Ls)[0]?=sO (.dct Hv),(wa M g.1).map .str,St->Hp->(St->Hp->Prop)->Prop,Hp->(Bool->Hp->Prop)->Prop,λx r=>show∃t,u=zT5 from r,(envOfC j d s.heap.objs.size f cd).kindOf,(by let Y:b=a:=hA b (by rw[q];simp);subst Y),λe=>#[z.1,Rw.mono e _ _ z.2],λf a=>λx c e=>(f b a).2.2.2.2.1 x c (B.sub x c e),s.heap.DictOfH (Qi prog w) d xs,λn g=>((λx c y n e=>g (by rw[Nw,Dg,Nz]at n;rw[e,n]at c;show c))),!t.plain&&decide xYg,I1.fpOk g (jj6 I1 g),dictEpoch d xWc,Yh ((L++[l]).map cdL) [],(by let#[i,w,ei]:=Dz.mp f;let#[j,v,u]:=Dz.mp n),g.2+2<(hL S G (Ls++[[]])).length,sO (lnW p (sq out j)),(λv H2=>iT/\Q (.ref x) H2),by rw[hk];show#[_,y,q],(λR2 H2 l=>k R2 H2 (g.trans l)),(λ HA=>W.int (lo+(i:Int))),by rw[if_pos #[EF,by simp],Qdr _ w hw],FE (Nn ?_),(by let#[y,p,rfl]:=a e (LF l);show jjh),a.size-zf8+(b.size-nb),((h X.s₀ X.H₀ 0 [] []).2.2:False).elim,(O++[qC6]).map .str,sO (J2 x),lf k.2 qze,(EE p out).map (stW p out),lsF aN aR aA,mUn (Jp C "askers") mo,Rs.map Qu,xce/\j<2^62,λa=>call (.builtin "isinstance") a,call (.builtin id) (v::d),Cal X.prog X.w X.K X.mg X.base k x ps g,a.size-na+qs5,(by let#[ks,rfl,p]:=id f;let#[B,rfl,q]:=id d),Qh 1 Xl (Qa (Qb 0) Qc),Qh 1 Jw (Qa (Qb 6) Qc),mFn Qg1 (Qa (Qb 4) Qc),by rw[KI (by decide)];show v,zj1/\p.2.1=q.2.1/\RelV p.2.2 q.2.2,V->V->V->Hp->xZh->Prop,assign (.Name x j) X.env,(by cases g;show zie;let#[o,f,rfl,j,m]:=rv),l9=sO xY2,(by let#[o,a]:=a;show(jbd,jA a)),λz c=>(by let#[e,l,z]:=c.2 j b[j] Za4),(by let#[ad,j,rfl,hF,rr]:=f),.Call (.Name g F) [e] [] d,decide (ac<7)&&decide (e<7),(by rintro i c _ _ _ ⟨rfl,l,o,rfl⟩;dsimp only),mFn GY (Qa (Qb 3) Qc),Beh (x.2.map cdL) k .en en,by simp only[YbK,decide_eq_true_eq,not_exists,not_and],nrm (ek e.1)=sO jfb,λs'=>Inv X pins zM7 H s',foldedSetIterable iter X.env x=pure x,λo i b=>∀o i,subscripted b false o i=xq0 o i,λV=>a.map V.str,(Builtin.Range.rangeSize i j c).toNat,.str "most",(by rcases o with rfl|rfl<;>decide),ks c=(ly E S (ks FD,[]) L).1,B++[(k,nO)],Qgc C xW9,(λy f=>h y xZ4),swapsWithSole [b] e pos.line X.env,(by let#[u,l,rfl,#[t,rfl],#[n,rfl]]:=Y6 r),as.length=bs.length,λa=>RcNeAt A s qD5 a xYd,(λi v=>∃e,es[i]?=sO e/\v=e.key),(Obj.putSet b t' o).data=.set b c t',(pendingOf st).toList.drop (i+2),QW [5,6,7,8],ZZ [Qw p,QN p,Qf s] h,(by intro u hu;simp at hu;rcases hu with rfl|rfl),tH p out qG8,g.length+Wt.length=K.length+d.length,λx6 x7 x8 x9=>kS p (.lst (M.map QG)) rn (sO (Qf s)) x6 x7 x8 x9,Inv qMf pins σ H s,#["tuple",_,ET.lookup,j.typeIs,?_],.Pass qF2,beq_eq_false_iff_ne.mpr (N8 (NK a)),f p.1 q.1 q.2,box frN m (.ref n::ws) h,λa=>setField a 1 (rawInt ((i:Int)+1)),by simp[Builtin.List.listSameRef,m],SetL prog w s.heap S ks (Yo w),(λh' tk hk=>Zaa),b.size-zU2,(by ·cases e;show Ql xXc),by apply(x.cps++y.cps).toList=_;simp,atI (out.map Qf) zgb,Kt (s:=s) (h:=jf6) (n:=0) rfl,λx=>Qlb (p:=p) (out:=out) (M:=M) (P:=P) (G:=G) x,(hL S (G++[(e.1,Ls.length)]) (Ls++[[]])).length,(mdS p s).toList.map λw=>(w,s),decide (a.cps.toList<=b.cps.toList),Si p out M wd s met (w++[o]),by rw[if_neg xU5],a.length-1,(λa h=>(b a h).bind λp=>f p.1 p.2),λb=>(by cases e;show k R H [] (Ext.refl _) b Rws.nil),l<s.heap.objs.size,os'++g,((N1 ..).extBut.push _).push _,Obj.putSet b t',rule "set.scan.the-table-gave-way",λb=>(by wp_delta;rw[show splitId c=sO b from by subst a;show lN];subst a),Nv hn.symm,∀r c,Sg st0 c->Ro M a b r->P r c,(by let#[ks,rfl,p]:=c;let#[ls,rfl,q]:=r),QF 2 (mC (.int 0)),QF 2 (Qh 1 ZG (Qa (Qb 0) Qc)),QF 3 (mC (.int 0)),Zc [.ref i,.ref j] h,λe=>Ww hi e (by simp) (by simp),Ahd (x.2.map cdL) k fs,hI p out M P G (Ls++[[]]),dK (shL M out wd),[(m,0,nO)],D++[(k,0)],q.2.map Yw,(by rcases tk i h with z|rfl;·show hj i z),z.sameBut f xYa,(λx H1=>tb σ H1 λy H2=>R x y H2),λl=>by simp;show Nh xY0 l,(by let:=congrArg List.length S.pre;rw[EK]at this),by rw[this,Qbx (n+1) l _ w];show xw8,mo σ h1=sO (.ref n,h1),Qa (Qb 2) Qc,Qa (Qb 5) Qc,λs=>SetL prog w s.heap S (uniq zYe) led,by rw[Qz (q5 q)];·show(hf b d).1,DN ja3 Ip.lookup ?_,λl b=>(by let l:=DQ b xR4),(St.uniq xib).length<=5,(nx p (sq out j)).map Qf,(kyL p out).map sF,λg f=>(by let#[g,f]:=I.wm o (NS _ (Nz.mpr rfl))),(λ_ _=>Classical.propDecidable _),λg=>λi h g st k=>k it (by simp) _ st,2^62,envOfC b a s.heap.objs.size f cd,λa=>RcAt A s qD5 a Za2,((f w,h)),.type "list_reverseiterator",#[X.prog,X.w,X.K,X.mg,X.base],xWh%2147483647,QA 0 (x.2.length+1),2<=(l.filter xAg).length,tk f 26,XU s d (by simp;lia),XU s d (by simp at p ⊢;lia),Zg a.2.2.2 (by decide),Qb i σ h=sO (.str y,h),(prw (p.take j)).length,(lns (p.take j)).length,mS p nO nO nO nO nO nO nO nO,Ni few (by decide),(ly E S (ks FD,[]) L).2,q∈wa (EE p out) key.1,VZ (b:=QM 5) (body:=ZA) ei X,#[_,rfl,h],λa=>swappedStores a e X.env,by show Nt (N2 c (by decide)),b λw hw=>h w Zb2,(((sIx n d (sO v):Nat):Int)),pure (sO v),pure (s.heap.objs.size,[Value.ref l]),Ext R { R with F:=xxi },fin xXe h,ZM (drf h 40) ws=sO as,λa=>@ob _ _ (λq=>f p.1 q.1 q.2) a,λl=>by let e:=LX l;show Nh qY5 hsz,λO=>#[O.dropLast,O.getLast h,(EW h).symm],(by let hk:qC1:=U7),(ly E S (K,[]) L).2.length,(λz=>rf (by simp[z])),λc=>Qb6 rfl c (by simp[dep]) hd,Dn M wd s met (w++[o]) z,(by let#[_,_,_,_,o,_,_,e,_]:=x;show NL e),λb=>λa H1=>a.length<=sizeLine/\∀p,H1 p=nO->Q (.ref p) b,.lst f Za1 c m,P xgc σ2 h2,mo σ h=sO (.ref r,h),QH ns os (h.set n o),KD xW4=false,Nn (Na (LA hit.typeIs ?_)),s.TypeIs (.ref S) "set",unsupported "internal:collect",∃old,IsEnum h e it i old,(λT vals h' tk L hT F f hk=>?_),λh=>(by show λf z=>(NJ.mp z).elim (λe=>e▸h.1) (c h.2 f)),QF 8 (mFn Vd Qc),Qm (Qb 10),QF 1 (mFn Vd Qc),NY xY6,met++[t],by intro h FD lw x4 x6 x10 f w u wf LL B hL hf,((i,s,c+1)),Hp->(It->Hp->Prop)->Prop,by rw[ND];show r.length.symm,∀D σ H,t' D σ H->t D σ H,.ok xYe,(by obtain rfl:v=Value.ref (R.ρ n):=rx),λa=>SetL prog w h' s.heap.objs.size a (Yo w),(by rintro r j ⟨rfl,rfl⟩;show Nn z),by show Ql xWe,(failedOf qQc).isNone,show k-(i+1)=k-1-i by lia,QkA i*(Wt (i+1)+2),λi g b=>by rw[if_pos (by lia),i qEj c g b (by simp;lia)],λq a=>(by let q:=a.sz x (NN.mpr #[j,f]);rw[NO]),by injection z with z;lia,qT p out M nO nO nO nO nO,flt p qG9,flt p ((i,s,c+1)::F),[Qw p,QN p],W.ref e.2.1,J5 (x:=Qw p) (h1:=[]) rfl,.For tg iter body [] pos,truthy v,if g=f then sO u else l g,by refine DJ xW0,by refine DJ xUa,(atI d i).map λw=>(w,h),(Obj.putSet b t' o).ExactSet,(pendingOf st).toList.take i,QeO j++f,mC (.int 26),mC (.int 10),QA 1 (a.length-1),λB=>(Nd.mp B.at_).1,qS p a (sO (Qf s)),λa=>Yv (j:=0) (g:=a) (by simp) ?_ rfl (by simp),Ls.set i (l++[q]),gn M s,gn M (sq out q),NS _ (Nz.mpr rfl),(by rcases(mem k v).mp d with z|⟨rfl,rfl⟩),(by rw[Qbg J]at m;show m),tu B v.1 (sO key),Nh QpP (by decide),I.base.keep b o e n P B,(by simp only[Ea]at e;show Nh qY5 b),.Return zh9 pos,λB=>(by let B:Data.fields _=Data.cell v:=z;cases B),c.length+a.length<=sizeLine,x.length+y.length<=sizeLine,x.above y c (DW h),λb=>OF b.typeIs (by decide) ?_,sO #[oc,od,.func fd,osl],Rws.th_ok m s _ _ c g a,.ok Za7,λe=>Ez _ e xSj,(λb a=>by simp at a;simp[a]),hS.at λo e=>d.heap S _ B e,At xs (ja1/2),collect (.ref S),O M xZ1 _,QiO hc hk ha hb f d o h1 h2,(λp=>p.2∈vs/\p.1∈vs),(λ_ _ _ _ _=>(h ..).2.2),JP (Qh 6 Zi (Qa (Qb 2) (Qa (Qb 3) (Qa (Qb 4) (Qa (Qe wIx (Qb 6) (mC (.int 1))) (Qa (Qe wIx (Qb 6) (mC (.int 2))) (Qa (Qe wIx (Qb 6) (mC (.int 3))) Qc))))))),JP (mFn Wp (Qa (Qb 2) (Qa (mC (.ty "list")) Qc))),JP (Qh 3 Zo (Qa (Qb 0) (Qa (Qb 1) (Qa (Qb 4) Qc)))),JP (Qh 4 Z8 (Qa (Qb 1) (Qa (Qb 2) (Qa (Qb 3) (Qa (Qb 0) Qc))))),bst k c qO2,(by rw[e]at z;simp[List.replicate]at z;omega),∀j,Vf [] [] h.length j=nO,Dfs p met jhh (n+1) out,(by unfold Ya;simp only[this,N0];simp[VV,Da]),rA r key h.length nO nO,[key.1],H a=sO xY1,(by subst J;rw[hi]at l;cases l;rw[E6 F]at D),pyNext (.ref I),λZ m l=>#[rfl,λys Z=>by rw[I.list_inj Z m];show l],(λ_ _ _ _ _ st h=>Yah st h),λa=>wpAny_pyIter_range xVj a ?_,∀v,(x,v)∉binds,Str.ofString "__getitem__",by rw[<-q.len];show b,(by show lY p;cases p),nrm (Qf s)=sO (trS s),OO (N4.mp z) ak,(by let aa:a.toArray.size=i:=xkj),s.heap.IsList l vs.toArray,.Compare a [op] [b] p,(("either":Str)),Zg q (by decide),ZY [Qw p,Qf s] h,ZY [Qw p,Qf #[way,part,k,false]] h,QX [Qw p,Qf s] h,jl6++[.lst []],hL S G (Ls++[[]]),(by ·simp[fin,kil,c,d,prR]at a ⊢;show a),gH R wq met,gH R w (met++[o]),gwL p M wd nO nO nO nO,(n::(B++[n])).map Qf,λu=>storeName X.env x u,(by let#[o',l]:=I.base.there b o e B),.Constant .none j pos,λy=>(y.length:Int) != 0,Df K (.ref C) name,(λ_ _ _ _ _ _ _ h=>h.elim),∀a o,F a=sO o->b a=sO o,.ref ad,by rw[ND,ND];simp;lia,λd=>s.heap.IsTuple ad d,env.scope.kind==.function,by ·show congrArg (·+1) (c a),rep j (sz-1-i),by rw[IL hd];simp[rawInt],(by let#[c,rfl,rfl,hk]:=KZ I d p m B),by rw[Np,Ee,NT a];rfl,checkCount "sorted" 1 1 _,s.heap.IsTupleIter it l i,by show Ng c (Nv g),rule "list.sort.merge-lo",rule "list.sort.merge-hi",ha.ext ia (NA _),hb.ext ib (NA _),QaB a p.1 p.2.1 p.2.2,RS c st,tf f 26,#[r++[q],part,k,false],qH (met++[s]) st,(by unfold box;rw[X5 (by simp),Nj]),λC=>(by simp[frR,th,res,Vf,ZM,QH,C]at hd ⊢;rw[hd];rfl),#[nO,nO,nO,nO,rfl,rfl],H.lt aN (by simp),H.lt aR (by simp),.inr (.inl d),h[n]?=sO (.dct a),(ks.map (dN n)).sum,decide (Tr.t ks=Tr.t ls),Nh f (Nu _ _),.While c body [] pos,λy g=>Inv X a y H { s with heap:=g,toks:=tk },λq=>λhn b q=>#[hn b q,(f2 b q).2],a++[f w],min v.toNat n,HT.sIx d.length 0 lo,#[0,0,0,0],∀a u,R.G a=sO u->a≠p,List (Key×W),mC (.str "grows"),mC xXh,mC (.str "most"),(λb E o e=>old b o e),QC fin mi cp b Vz me,Heap.ExtBut it s.heap h',#[NQ _,#[_,m],hit],∀c st,I b c st->P c st,a.extract ia (ia+k),b.extract ib xt1,λa=>MS (Array Keyed) Nat Nat a,λa=>MS Nat Nat (Array Keyed) a,IB (EY _ _) _,sO (seqObj "list" #[] v),(n,k).2==NameKind.free,Qq5 d fin a cp b t m,#[DQ _ (OR c),D7 _ c],v=3\/v=5\/v=7\/v=9\/v=11,∃y r,l=y::r,[#[way,part,fs,true]],VV (met++[s]),VV (met++[t]),.lst (st.map Qf).reverse,Eg p out j,(i,s,c)::F,λh=>by apply wEq (.str w) (.str wd) h=_,by ·show xo9;simp[tb],xs.map enc,R.set i (kil gone r),by simp only[Bool.not_true,Du,if_false],I.base.slot b o e n P B,.UnaryOp .Not a pos,(by rw[hd]at d;unfold Zt at d;split at d),ty="str_ascii_iterator",(by rw[hd]at f;unfold ZN at f;split at f),λd=>s.heap.IsList ad d,mg x=sO (.ref f),me c h=sO (f w,h),λp=>fin (a++(rest.filter p).map f) h,λa=>swapsWith a (sO (.Name x pos')) spos.line X.env,Nn (wpAny_throw ?_),λp=>.Name "reversed" p,ItT w I S T vs i s.heap,b=e\/b=it,I1.kept (t':=c.toks) hk,s.heap.IsListIter I l i,dictGet d .none>>=_,Paired xsi l ks,out.push (<-elem' a na),out.push (<-elem' b nb),Nat.min_le_left _ _,by ·rw[b,a];show#[t,rfl],t<(bks ls k).trs.length,0+qK1,(nx p s).reverse.map Qf,y.2[i]?=sO m/\Yd m=true,λa=>Rch (EE p out) (shL M out wd) m a,Rch (Eg p out out.length) S m q,if_neg (λz=>hj z.symm),by simp only[Function.comp];split<;>rfl,λI=>λk hk=>I.wk k qV7,c.2.map (Wv R),(prR (gt R i)).1,(by let#[e,n,ne,nf,d]:=I.pin p hp),λg=>.AugAssign (.Name x g) op e pos,binaryOp .FloorDiv,λj=>λx y H Q=>zh2\/j x y H Q,(((sIx n n hi:Nat):Int)),.Slice lo hi nO p2,(λx=>!x.1),#[[u],[]],sysModules<h.objs.size,.ok .next,eqW a a=true,Qc σ h=sO ([],h),jk3=sO qJ3,(by rcases B x l with l|⟨i,j,rfl,p⟩),QaO is,((ws,[])),∃o,Qcj cp σ=o::caps,(Qi prog w).room A.in1,by simp[pairTrees],items.size+1<scanBound,List.range es.size,NY (by simpa using lt),(by rw[h.1]at this;rw[h.1];show e this),(Nat.succ_add ..).symm,(λi n t st f y=>?_),old b o e,by rw[l];show hit,#[N,Qt st,n,true,t],N.length-ps.length,by rw[Uv,e];simp;omega,tf (tf f 26) 3,by rw[Uh,if_neg (by decide)],tk (tf q 3) 4=0,j-(k+1),met.length+n<=15000000,(dI G).length<sizeLine,hI p out M P [] [],e.2.2.length,kil gone (gt R i),NY (by simp[Ut];omega),∃t,u=Value.bytes b t,∃t,u=Value.float b t,k b u (j b n) q,λl=>λe l=>R Za8 l,λa H1=>tb { D with nx:=N,ct:=N,bk:=D.nx } a H1,∀v,o.data≠.cell v,.BinOp a op b pos,intBits_le_64 e d,Im K C Str.empty=true,by rw[c];show hw,D7 _ (by decide),valueAt (q::c) k,by simp[valueAt,NV,d],λa=>mUn (Jp C "askers") a,λd f=>k R H2 _ (Ext.refl _) d f,cp[i]?=sO (sO j),λm=>λp U z=>sz (I2.pin p U).1 m z,Qiy wi cp g tt te,(by subst M hw N;let#[hi,st]:=st),λc=>(drf h 40 a).bind λx=>(drf h 40 b).map λy=>c,Qa (Qb 1) Qc,λp=>fin ((items.filter p).map f) h,0<=b/\b<1099511627776,(St.uniq b).length<64,PairAt knd s.heap v p,by simpa using hz,#[m,#[d,c,g],q2],(pendingOf st).toList,c.sc.names.lookup y.1,Jc (e::es)=true,(Ze l).attr j _ _,(Ze h.1).comp h.2,λb=>Gh a "open_key" 2 (Q7 a) (Qb 2) b,one _ (gv _ c),by simp only[Ny,EM,decide_eq_true_eq],I.f g (NB _ l),∀e∈G,e.2.2=[],λH=>Qcp (f:=kO) H.b l,(QJ (n:=0)).trans rfl,k=if b then 1 else 0,Na xY5,Nn #[_,rfl,Nn h],H p=sO (.lst xs),H a=sO (.tup xs),sO (.tup ((Wds p).map .str)),by simpa using I.len,.IfExp c a b pos,X.wish E,compareOp .IsNot,sc.isCoroutine=false,sc.isGenerator=false,Str->Option NameKind,IsTup s.heap t items,h++[.dic []],h++[.lst ((St.srt (St.uniq b)).map .str)],ns.map WData.int,(K w.params).In base,Qbw s.heap I.big,λh=>(by let:=Jo (env:=env) (pos:=pos) h;rw[O8]),by rw[ND,ND];lia,λr=>(by let#[_,rfl]:=r),c.length+k<=sizeLine,Vf A js h.length,Rw.mono l _ _ rk,setNext S c i ep,args_list_sort _,by refine Dt e_upd ?_;rw[Dl p_upd _],λq=>List.foldl _ (GH _ q.1 q.2) _,a.snd.fst+1,ne b o e,LtA A s u v,λq=>mgX (QaB _ q.1 q.2.1 q.2.2) _,.Attribute o x p,QeY (Qt st),bks ls k,.int way,((xi4:Ln)),a.drop (j+2),tf (tf q 3) 4,J2 (e,u),λn=>bks (ls.map cdL) n,by rw[NH,Em];lia,(by subst this;rw[<-ei,<-u]),uS k nO nO nO nO,Ph E S a n L.reverse,kf _ _ z.2.1 z.1,by rw[NP,NP];lia,F.map Wh,or_congr eq_comm Ybk,by simp[Wp,Ua,Kh,Vq],xs.length=us.length,∀a b,F a b->G a b,∀v H,Q v H->Q' v H,Mod X.K X.mg X.base,I.ok.noex b o e,s.heap.objs.size<=a,s.heap.objs.size<=C,s.heap.objs.size<=T,s.heap.objs.size<=D,f.heap.objs.size<=C,c.heap.objs.size<=b,ns.length<=sizeLine,#[_,a],vs.length=ps.length,us.length=ps.length,atI c i=sO v/\Q v H,.seq its'.toArray g,ys.length<=sizeLine,starEach es env,#[#[x.cps[i]'g,]],wSl p.1 q.1 r.1 r.2,(QbB l c k).binds b,xs.names.lookup p.2,DGet.k (k:=c) C,a p.1,[.int f.a,.int f.b],λe=>DA e hd (by simp) ?_,kx.length<=sizeLine,sO (Qha f i S n ep),.Tuple M kk pos,(by let#[m,#[old,g],h1]:=st),ad<c.heap.objs.size,vs.length=us.length,forIn [a:b] c g,<-get,bcount >= minGallop,acount >= minGallop,∃r,c.1=sO r/\Rr r,Qjs hc hk ha hb f y,setPending st u,(by let#[m,q,l,lo,hk]:=Qel I t),MetAt K C x q st ps,s.heap.IsList d its,c.sc.kind=.function,∀f∈t,zl2,[nO,sO 2,sO 0,sO 1],0<t/\0<later.length,ls.length-(j+1),0+xhc,q.2+1,met.length<sizeLine,λb=>qS p (sO (Qf s)) b,pW (QR l)=true,St.uniq xib,m.2=(part,k),s.way=[(0,j)],s.way=xZ5,λL=>ly E S (ks FD,[]) L,L.length<=FD.length,by simp[em,F,n],λh=>MM Qu (eoL Yw) h aA G,wpAny_pyHash_int h,wpAny_pyHash_str h,Nn (Nn h),decide_eq_true rfl,f.length<=sizeLine,d.length<=sizeLine,L.length<=sizeLine,D.length<=sizeLine,inplaceOp .Add,compareOp .GtE,.builtin "min",λb=>HT.sIx b.length b.length hi,(λ_ _ _=>False),.dK (GH b k v),(q.obj n u e).mono x,QU (Qb 8),QU (Qb 3),QU (mFn X0 Qc),Binds X.K fd ps [],Rws.append l j,tyW p.2 T p.1=true,.seq its n,sO ([],[]),Xv k (w::ws),λj c g s=>(by rcases Qbk e with⟨n,j,c,rfl,g,rfl,rfl⟩|⟨j,s,g,rfl⟩),(by let#[_,u,_,hu]:=L.there l),(by intro j v w r z;unfold res at z),(λp=>f p.1 p.2),firstArgMember _ _,(Qi prog w).room A,b.toList.length<=j,.int jj8 0,Value.type "tuple",(by rintro x rest r j ⟨rfl,rfl⟩),acount<7&&bcount<7,a.extract 0 a.size,b.extract 1 b.size,Nat->X->Y->Z->Prop,QlO lo a.snd.fst b,(pendingOf a).size,ty0 sh0,r.1.k<=c.k,Qug i c a b op,Qm (Qb 3),Qm (Qb 5),Qm (Qb 9),#[P,w,K,b,base],(λx=>(x.1,k,x.2.2)),97+(tk f 26).toNat,List.map En.kd,by ·simp[hB,bst,c,F,e,u,EG,rW,tO],st.length<sizeLine,1+QfI p s.part s.k,WY d c (N6 _),(by rcases a with rfl|rfl<;>show c),s∈met,out.length<=280010,h.length<=h'.length,wdL (y::r)=nO,(lns p).map QR,tf f xie,(by intro H;refine b λu hu t a=>?_),by simp[QG,QZ],(hL S G Ls).length,(by unfold KQ;simp only[Z,YH,Nj,N0]),(by unfold Qce;simp[Ye,YH,QjK nd h]),Zj xj8 t,λd a=>(by ·let:k'=k:=d.symm.trans a;subst this;simp[d]),NR _ hk,Qju A m (n:=key.1),(by unfold lT;simp at w;simp[Qaw,w]),(Qc3 R o s).length,Dn M wd s met wt z,gwL p M wd F l d c,(λh=>by rw[KP];rfl),Q (g i j) H,(I.ok.bs b o e).1,(I.ok.bs b o e).2,((m:Int)),binaryOp .Sub,binaryOp .Mod,binaryOp .Pow,compareOp .Gt,by let:=r.un;lia,sc.kind=.function,c.length<sizeLine,d.length<sizeLine,sO (p.1::q.1,q.2),ty="str_iterator",by simp[ER,b],((x,NameKind.free)),(by unfold Builtin.Range.rangeSize),n+(j+1)=n+1+j,mv σ h,R.ρ (A.getD i 0),(((n-1-i:Nat):Int)),(((k-1-i:Nat):Int)),Value.type "list",ItemsOf.nil _,#[r,g,d,tk,os],#[m,J.1,J.2.1],λa g=>W.done s _ _ a λh' tk g=>?_,#[S,U,p.isList],A.in1.units<cLine,by show Ql #[rfl,i],k+1+(i+1),es.size=kx.length,x="enumerate",(Ze h).mark _,r.fc a n g::t,#[t,i,en,g,c,?_],(s.length:Int)<=D,by unfold QR;simp,by unfold Yi;simp,List.countP Yd ls,x.2.filterMap wdL,[(m.2,Ls.length)],G.length<=1000000,L.length<=1000000,by rw[e];show NF,(sc E S n).map Q2,λb=>NG p out (shL M out b) b e,G++[(k,n,[])],λI=>I.wk key (by simp),(z c f).1 i d,IsT s.heap n,Nv e,sO (.Subscript o i pos'),sO (.lst (is.map (Wv R))),λb c=>holding [v,b,c] (setItem b c v),[assign b X.env],step x H5 y5,λb x=>λa H Q=>b a H λx H1=>r x H1 Q,λH=>∃k,Qta X.K x H k/\Q k H,Im K C name=true,Room (k+1) A,Nh I.ok.bsz I.sz,(vs++ws).toArray,(a::b::r).length,GR (p::r) k,by simp[GR,NV,e],.r n,(by simp only[Qaw]at e;split at e),i+n=items.length,items.drop i,items.drop (i+1),j<c.toArray.size,QgL xs lo hi,Qc0 mo mi mv,(QH ns os h)[n]?,λg=>Cal P w K a base k x ps g,z.length*n.toNat,box frN m args h,s.way.map Yi,YaU ?_,QaB kx k b v,by rw[eL],b.size<scanBound,b.size=ks.length,λk=>(strKind prog w).is k e.2,kp.1.trans m,p.take (j+1),Value.type "set",λz=>by rw[<-z];show D3.mpr v,sO (ZO b,nO,p.2),KeyKind prog w K,L.length<=100000,(λg tk dd kp=>?_),n-hint,pendingOf st,(m>>=g)=(m>>=g'),_,Yl L (n+1) c,h n st d a g,Nt (D3.mp h),IsQ s.heap n,A.units+12<cLine,b.h _ (O _ f c A a s H E e),.Attribute o f _,Qnd s c body,QW [2,3],QW [3,4],QW xb2,[4,5,6,7],[nO,sO 0],[nO,sO 8],Option (List En),pil ls ls.length,Option (List Cd),λb=>dcn b=dcn L/\pcn b=pcn L,p++[(nm,ls)],rv b,(λj=>by simp[Vf]),V3 mo mi mv σ h,JV [Qw p] h,(by unfold wa;rw[Nq];show E2 _ _),.inl (z:Int),Ge A (NA _),Gv A (NA _),k.2.map .str,QK (es []),λH=>congrArg List.length H.kd,e.1.2.map .s,out.take (0+j+1),(B.length:Int)+1,by rw[Nw,NU];rfl,∃t,v=.str x t,Ng a (Nv c),fs.length<=1000,frs X.stack,(f _ z).2.1 rfl,EP X a σ Q,#[v,H,I,r,h],d.lookup x=sO c,.Expr e pos,-(2^62)<=j,-(2^62)<=i,.ins C dx fs,(by rcases h with(h|⟨o,h⟩)|h),#[o,e _ _ h],D3.mpr this,I2.stkSub _ z,SqL X.K H ad xs,SqT X.K H ad xs,λL=>SqL X.K H ad L,λL=>SqT X.K H ad L,λg'=>spM K ps.length g' vs H Q E,YbP w.params es,GU mo mi mv,#[σ,h,WU,c],by rw[Qo,e];rfl,[.int 6,.int 7],#[h.1,h.2.1,r],h.1.trans z,DctR X.K R a kx,V3 mo mi mv,(((k+1:Nat):Int)),.type "set",λb a=>ltCps b.cps.toList a.cps.toList,by rw[eb,z],λc u=>(by let#[o,_,_,e,_]:=c;show NL xw5),(by rintro c _ ⟨rfl,l,o,rfl⟩),λr=>Qjf hc hk ha hb hg r,(arrOf st).size,.ref a.2.length,i.e c r.1.1,["feed","many"],(t':Int)=t+ch c,(by rcases hk with z|z<;>simp[z]),Beh ls j .en en,λj=>Q0 #[a,b,j],_,v<=8/\v≠2,by show On s r,later.length<=5,_,E _ _ .non _ ?_,ls.length<=5000,k-(i+1),(b++[m]).length,λa b σ=>QC Zf a [nO,nO] (QW [0,1]) Vz b σ [],s.way.length<=4,λl e a=>(by rintro j w l e h ⟨a,rfl,rfl⟩;rw[Np]at l),by simp only[this,decide_false],(wa M q).length,rkD L (j+1),FD.length<=1000,λi=>(Gv A (NA _) _ i).1,λl=>by rw[c _ r l];show H.i,w+1+600<f+1+3*m,stp M p a t,is.length<=2000,u=Value.type n,I1.ok.hd I,Qd8 I q ?_,((sizeLine:Nat)),r.append i,((ns.length:Nat)),true==true,upd H a ob,Rws K R' ws vs,(by cases e<;>first|rfl|cases h),sO (false,p.2),Qcy q,i<items.length,newList [],Nv am.symm,(by subst this;rw[U1 u r o m p]),its.toArray[j],(by let#[v1,t,o]:=QdS p j),Wz b lo hi,QqV lo c n,by ·rw[z.1,z.2];rfl,n+j+1,λz=>λ_ _ _ q=>UD z (G7 q),(Xi a k).isSome,US c k b v,pure (sO true),by refine Dt Qq ?_;rw[Dl IZ _],λj=>Q j { s with drawn:=d },rawInt 0,λc=>(EL _ _ (N8 c)).trans e,(λk hk=>?_),I.hok.fresh hT,items.size-i=k,DicR K R ps kx,λb=>by apply(ths f (a.map (·.2))).map b=_;rw[Zu f _ p,N0,Qbd],I i c st,λn=>c=(nO,l,r)/\r<=n,a.extract 0 na,b.extract 0 nb,modify (QgM e),λa d b c=>a.extract 0 d++b.extract 0 c++out.reverse,k-1-j,Qes lo a.snd b,by rw[<-Ee,Nl],pairsOf vs,(λc=>h c),U9 1 x c.t,U9 4 f c.t,b.line==p.line,[nO,sO 6,sO 5],["self","key"],(sz-1-i).toNat,["second",x,y],["do",x],cd "again",λD=>Qd2 D (by simp),res kp g 2,QA 0 ls.length,s.way[j]?=sO q,x.2[fs]?=sO l',prw p,(Wds p).length,(Gb _ _ rfl).1,2+way,(by unfold thO;dsimp only;rw[k]),Ng (QfS e d) u,F0.length<=200,k.1<out.length,e.2<out.length,by simp[gW,QG];rw[Ew];simp,gS M out w,BI E S V a K L,((ks i,r)),[(m,d+1,sO n)],La.length<=200,Lb.length<=200,(Wds p).take j,QK eg,by simp[QG,QZ],(Ei.mp M.nd).1,sO (.ref aN,h),λc=>Ny.mpr #[_,Xq c,rfl],(ixs R).map rf,Qc2 M p [] run,#[j,e,ok,i],Value.int i t,List (ι×κ),λb=>(QnE b).resolve_left r,by rw[Qz Za0],(X.wish E).Ok,PSs X body tb,#[u,hr,h4],λi=>-(2^64)<i/\i<2^64,λe=>λx e=>∃k,x=.bl k/\Q k e,UT f y fs,PE X value tv,(λm=>xs[i+m]?),atI xs i=sO v,#[rfl,fin],(b::r).length,tIT X.K m,j z _ _ o i g,Qh n g ms,Jd mi b m,(by unfold wIn at e;split at e),sO (sO i,p.2),Qfp m l u,(n,m)∈E,by rw[ND];lia,(Kc c k).isSome,(Kc d c).isSome,(Kc (fd FD) (.inl (m:Int))).isSome,ks.zip us,x.length<1000,(λa _=>?_),λa=>done _ _ _ a (I.tok _),(by unfold rep Str.length;simp),mFn f ms σ h,mi σ o.2,mo σ v.2,Xh h b 40 c e,((es.size:Int)),(Xi c k).isSome,(Xi (VV met) (trS s)).isSome,(Xi D (trQ q)).isSome,(by let#[v,rfl,l]:=Yf rv),λr=>StrsAre items.toList r,by kernel_rfl,nx k%l.length,t.fits n=true,λa=>Builtin.List.listLengthHint a,b.length<4000,NK (E4 f),i<=items.size,ps.drop i,sO Value.none,kindOf st,kindOf st0=κ,Nv (NO _),#[g,_,rfl],(by let#[_,e]:=d;cases e),ns.length<=63,Dl Dc.p_upd _,DR Dc.p_upd _,.Attribute ..,coLoB c x,#[d,?_,?_,i],.Tuple es _ _,(Ze z.1).star,Qa a.m Qc,λh i=>(by by_cases z:j<=k;·show h.ge j i z),by show IM _,["first",x,y],[Z4 bs,Z4 ws],λa=>by simpa using a.2.2.1,(by simp at d;simp[Z5,QD,d,hd]),rk p t<rk p s,(by let#[F,E]:=q f m o a),s.head=t.head,(λz=>e z.symm),qH out [],ms.map QG,PL.map QZ,I.at_ g L,(by rcases H u hu t a with z|z),n<=out.length,λU7 e=>by simp only[U7,F3,this,e,decide_false];show a,s.part=t.part,#[_,EO a,?_],m∈ks FD,DB this _,x.1∈k.2,Qa0 G k f,(Nd.mp I.w).1,(K.map f).sum,tv D v.1=sO y,Rs.length+c=m,[MO.ins C []],by rw[Et (by omega)],l.map rwT,is.map rf,wq.map Qf,λd=>by unfold Qm;rw[d];rfl,(n::B).map Qf,λn=>by ·rw[Nq];show Nh (Nu _ _) n,by rw[NU];rfl,MoG p out M v,.str x t,IsT h' n k v,by intro n σ h c e,(λ_ _ _ q=>q),sO (QZ q),sO (.str m.1),sO (QZ m.2),sO (.ref H.length),SP X a D,I.kIn a o hk,st::rest,Itr lo n,λc=>.ref c.heap.objs.size,m<1073741824,k=!j.isEmpty,Nt (Ni E (by decide)),Nt (Ni l (by decide)),a++[q],(g,x)::r,(g==k)=false,LN.mpr h,s.TypeIs v T,λo i=>operate [o,i] (getItem o i),λp f=>(s.heap.update p f).get? p,I.hok p _ hk,tyV K T x H1,List Keyword,ns.length<=j,#[[a],[]],if_neg g,o.getD d,q.ne g b,#[_,x,y,?_],tS X.K m,Qb i,b w d h=sO c,sO (true,p.2),Z2 ta tb,tIT K ta,tIT K tb,XD ta tb,.ListComp ..,tII K mi,Qc1 X body m,Qo t m n,Gd cp σ,ak a7 ab,an _ rfl,c.toArray[j],c.toArray[m],!eqW a b,(λy=>eqW y x),!inW d c,y.2 != .free,.int (j:Nat),GP a k v,GT false,Qcq h n=sO o,Qa m ms σ h,Qa m Qc σ h,ms σ p.2,(by unfold Ka at p;rw[N3]at p),∃n:Nat,i=n,λa=>by rw[QJ,Np,Nl a];rfl,i=6\/i=7,c=6\/c=7,LY _ _ _,p.take n,L.take k,E.take k,.int c 0,t.plain=true,#[f,a,b,c,d,],λJ=>w.params.setOrder S J,StrsAre vs i,StrsAre us a,i=items.size,i<items.size,by rw[z],λD y B o t=>(by let D:y=.non:=B.non_eq;subst D;obtain rfl:o=Value.none:=t),Wf n,ha.at hi,arrOf st,ib+k,b.size-c,ia+k<=a.size,YbG h1 _,#[rfl,ok],λv y a=>(by rintro b v ⟨rfl,y,_⟩;show Ql a),2<=vs.length,plN n w=sO t,Meth K C x f,Tr×W×W,(λ_=>#[]),Fs X.K f,.Tuple _ _ _,Vc r.1.1≠0,[nO,nO,sO 2],[nO,nO,sO 1],["spot","k"],Fit ls k t e,sO (fs,j,en),sO (fs,md,j),Op ls a st p,["same",x,y],k<=ls.length,(Nd.mp hk).1,(Nd.mp hj).1,by simp[frR],fin _ _ _ ?_,b.rws.map rW,b.trs.map tO,bS ls nO,(by let m:=U2 p;let q:=JT y),λa b=>(by let#[_,rfl]:=KS hw;let#[x,r,p,y]:=lines a b),a::_,x.2[d]?=sO l,x.2[j]?=sO l,a.2[j]?=sO l,o∈met,qS p a b,qS p (sO (Qf s)) b,((o.part,o.k)),λh=>by rw[QJ,Np,UE h];rfl,trS q.1,.int q.2,.int e.2,λF x=>(by let:=gr.sub F;rw[<-x]at this;show this),λC=>(Qjk A h0 (C _ hm)).2,(by let#[f,d]:=keep x c),OL λx _=>?_,λM=>by rw[Qa8];show M.kd,EJ λe _=>?_,I.af x z,key∈W0++Rs,H.lt _ z,Str×Spt,shL M out wd,cw wd (is.map λi=>prR (gt R i)),Qi9 (h s NF),((ns.length:Int)),hashStr w x,#[_,rfl,r],xs[i]?=sO x,xs[j]?=sO v,us[i]?=sO u,us[j]?=sO u,u _ _ e,e _ _ h,j<ks.length,EqAt.same _,sO (.own a),X.H₀ b=nO,λe n p=>(by let#[v,e,h]:=h;let#[m,n,p]:=I.loc),SqL K H p d,SqL K H1 a b,G.length<=n,b.length<=i,Itl K a,Itt K a,#[hr,I4],Int->Int->V,(by let#[i,j,rfl,q]:=h),λf=>by rw[<-l];show r f,y.2≠.free,vs[j]?=sO p,Ybo _ _,(i+n).toNat,OM.mp e,OM.mp f,j<xs.length,λB n=>λr B=>r=w/\EP X c n Q r B,.lst ys,YaK _ _,YaL _ _,(by let#[rfl,l,j,b]:=h),QcW I.hok e,ws[i]?=sO w,sO (.dK kx),h.1▸e,upd R.F p o,.rt p.1 p.2,QkG X.K r f,.lst as,as.length=n,tIG K b,λj=>(by let#[aa,rfl]:=j),inW d c,Fz.mp r y l,o::caps,tI K mv,tI K mo,tI K mi,YW n w=sO k,by intro vs pre as ns e b h,QF i m σ h,mv σ h,λa=>Qp (.ref n) a h,.tup us,λa=>QC fin mi cp a Vz me σ h,Q0 f::h,es[p]?=sO e,nrm kw=sO k,.type "set",λR a=>R a { s with heap:=h',drawn:=d,toks:=tk },i<ps.length,.inl hF,λa=>Ik _ a _ ?_ ?_ _ _ #[rfl,rfl],IsQ h n k v,Decidable c,fin l o,minGallop>1,minGallop-1,MS X Y Z τ,ite _ _,ha.at h,hb.at c,hb.at h2,XF h2 e,nb-1<b.size,a.snd.snd>0,Option Unit,ns.getD i 0,ns.getD j 0,(λq=>kV q.1),Cls Z.K f.C,MM (RE c e),MM (RT c e),.head _,(λ_ _ _=>nO),M.2 _ x q b,QF 1 X4,(by rw[p];simp[ch];simp at b),J5 this,λg=>(by let#[a,b,c,d,f]:=m.fit.oo g),Qeo h n,by simp[QA],((n.val:Int)),(λx=>x != c),Qsl v u,i<ls.length,λn σ h=>PI bs ws later size d0 o0 n σ h,Qf8 ms σ h,(by let#[_,rfl]:=Ke hw),(by subst this;rw[j]at g),key 0 a rfl,key 2 c rfl,by simp[ZO],Wd.map .str,by simp[hG],key G I.at_,s.way=t.way,by simp[hI],mem_sc.mp f,by simp[hL],[(1,sp0,0)],Iq.mp a,Iq.mp z,if_neg this,tv B a=sO (sO k),.ref aN,.ref aR,sO (Qu k,h),λH=>by rw[H.kd];show hk,DH this,λN=>Qcp (f:=W.int) H.n N,y<x+v.2,sO (.l q.1),λz=>by rw[Nq,Nq];show z,(by ·rw[QbL ge]at b;cases b),λL1 l=>L1.frame λa l=>NC (L1.lt a l),0<ns.length,by simp[hk],gH R wq met,.ty "tuple",DH r.lb,(by split at e;·rename_i m;show Ω e xCh),λa=>by show zW a,(by rcases f with _|f;(show(xQ3,jxf,jxf));rfl),#[_,_,l.int_eq,j.int_eq,m,ŀ i vd],f.new (mo:=zif) (o:=À a) n xDg,λa b g=>QV a λe=>fb b g,λa=>by show ο a,jYc g c i #[R1,d,a,w,m,c,i,o,jca],λc a=>vl c a,λe a=>jVc e a,Ψ xE6,λQ=>h a s σ H Q I zE4,zMe->∀σ h,Ba (n+j)->∃σ1,xn/\xH6,λi=>by rw[Lp en];intro x c;show Λ c;·show zzj (i x c),by show Ϩ d;·show h t d,.tup xs,#[_,_,l.int_eq,j.int_eq,ŀ i xb],#[key,Bk,h,ZP ?_,hk,Ė,u,s,rfl,Ŗ],λa b=>by refine a;show b,í xE3,xf jyh,sO (Ë (([]:Á).map .str)),Ľ A i #[a,rfl,So i j],by show(zT2 D N,xUd,Zb6,Ck u q),λd c=>λy d=>(L3 (λz=>c.1 (S5 z d))).mpr (h y (jz d)),.tbl xFh,χ i=sO a->χ g=sO b->qff m l,χ m=sO a->χ l=sO b->qff p o,(by let#[t,c,q,_]:=Ad q2;show Ž L p),Qa š (ê xH9),(λj l v a b c=>i _ _ xWa),[Ti e,À (mH zt),V1 zB7],ş (ê jP9),sO (ġ [xN,a,b,c]),#[_,g,λv q=>jY q],[zSh,B5 q],(by cases N;let#[f,n,J,_]:=Ad F),ş jGg,ş (ê xHa),#[r.1,r.2,Hh q e],jf xW7 xb3 xL8,jf xN4 xb4 xN6,#[zhc e d,Ó a h],#[yB a x,Ó p v],#[j,CV,c,CW e p],λS P=>(by show xLj S;let P:Zb0:=by show jcf),#[Ó t d,Ó t d],∀i∈c.1,CP,zfh f m C i d u z,[Px a,Px b,Px d],λz F=>by show(xN7,qq2 z c,xRi F z),Qe xX Ũ š,by show(xO2,jVa e),ī u,λd=>qd7 u d (f v u) Q,iT/\a=.non,Ü x::sW r,[QZ m.2,Ä bX],sO (Ë fB),λi d j a=>jYc i d j a,(by let#[f,v1,r,_]:=Ad x),bC β,ã xJ6 Am,ps++more,yH l d e,(by show tU m F o l S;cases N),by funext g;show ϋ f j q2 g,[B5 e,Ä xi],[Ti e,Ä xi],#[y,a,Ð],.int 1,x==bY,by rw[show Of "dict_keyiterator"=false by decide];refine(show wpAny _ _ (BJ (Bv d==Value.none)) _ _ s from ?_);rw[if_neg xJf],(ask p out M key q).2,.int 2,(by refine#[.ref T,rfl,xP5];obtain⟨x,hx⟩:∃x,Q[i]?=sO x:=#[xO4,Nl _];let#[v,hv,r]:=rv.get hx),XD (Qg xK3) (J7 xS8),XD (J7 zM0) (XD jS3 jWg),do if xHj=true then Hn else throw e,Na (m:=qT7) xH4,fE-xS,.int 3,gone.map .str,mFn Qqu (Qa (mC (.int 2)) (Qa xI3 Qc)),Rw K R p.1 zDa/\cU=pv/\Rw K R p.2 q.2.2,Lx xHi,Qe wNe (mFn ZL (Qa (Qb 6) Qc)) PR,Qh 4 Z8 (Qa (Qb 1) jX5),(by subst e;let#[_,o,e,c,d]:=st;show#[o,e,λv z=>by rw[d]at z;cases z]),thO (res jY6 qt0 3),Yar (a:=Value.none) jXg zA7,by refine Call_ xHc,∃σ2 h2,(xB=sO (.nx σ2 h2)\/xB=zJ2)/\P xgc σ2 h2,(Wt++[(ask p out M key q).1]).map Qu,λn=>n it (by simp),QC Zf tF [nO] (QM 0) zLj (Qb 0),QC Zf qxb BN (QM 0) qa0 (Qb 0),.Assign zA6 e pos,Xn I E D boot_enumerate xJ1,wpAny (model prog w) A xTi Q (λ_ _=>False) { s with heap:=g },(by unfold th at e;let#[us,h1,h2]:=ό e;subst h2;show iz h),(by let:Looks (model prog w) h xSh B.cls:=(Looks.ld c).andThen .now;show zcc d),mFn Vd (Qa (Qb 5) (Qa (mC (.int 0)) Qc)),by show(T3 h z,absurd z.symm e,z),ES (name:=zHi) hit.typeIs Dd xP3,<-isInstance e jZc,ES (name:=zHi) hit.typeIs Fk xP4,λA=>wpAny (model prog w) A xWf C (λ_ _=>False) { s with heap:=g,toks:=tk },[MO.dic bF],mFn Qo8 (Qa mZ (Qa (mFn ZL xKd) Qc)),!c.toArray.isEmpty&&Builtin.List.listTooLong xQ8,k R _ _ (Ext.refl _) xL6 Rw.non,mUn (xK6 C) (Qb 1),.builtin "dict.update.loop" #[[.ref D,.ref I,rQ,.none],[]],Qc3 (R.map zGj) xt s,pyNext (.ref I)>>=_,Builtin.«set.__init__» #[[.ref s.heap.objs.size,.ref l],[]],.type "method_descriptor",mFn Vd (Qa T0 qd4),Rws.cons zd3 xM5,a.map Q2++[.int n],(by let#[z,en,g,_]:=y;show q8 g;let E:(j.map tO)[t]?=sO xS0:=Sn g),eval c (compEnvC scope cl C X.env),[#[tg,iter,ifs,0]],res qhf p.2 3,λz=>(by let z:∀h,wIx xU0 (.int 2) h=sO (.str w,h):=λh=>by simp[QR]),(bk x).rws.map xX9,EA (thn (vC F d o) λL c r=>?_) A rfl,mFn X0 xNe,(by refine#[R,c,h,m,u,o,st,w,λR1 H1 y l b rv=>?_];split at d),λj d=>(by subst j;let#[z,hd,d,rel,dd]:=xxe),if k=f then(k,v)::r else(k,x)::UT f v r,Qh 3 Z0 (Qa (Qb 0) (Qa (Qb 2) (Qa (Qb 7) Qc))),K3 (un9 rfl (XE H.i rfl)) rfl e,Qa (Qb 2) xJa,Qa (Qb 4) (Qa (Qe Z3 (Qb 5) (mC (.int 1))) (Qa (mC (.bl false)) Qc)),Qa (Qb 3) xKg,(by refine#[g,d,?_];let b:Zm (c.map (·.2))=true:=p;clear p d;revert b),Ff n hd xUh,wpAny _ _ (if(ep != ep)=true then _ else _) _ E _,.Subscript o i pos',show¬xM3 from N5,.Name "range" p,thO (res qhf p.2 3),(by let D:=(QO m1).1;let C:=(QO m2).1),.frz (ns.map .int),(jr A n B 5++[n]).map Qf,Qh 1 Xz (Qa (Qh 1 Jk (Qa (Qb 0) Qc)) Qc),Qe wNe (Qb 5) (Qb 4),Qe wNe (Qe wIx (Qb 2) (mC (.int 0))) (mFn Q1 (Qa zE8 zCj)),sO (.builtin "object.__setattr__"),Vf [] [] h.length,λa=>Jp a "risen_by",MO.ins C [("numbers",.ref (h0.length+1)),("risen_by",.ref (h0.length+2))],#[Nh (OU z _ _) b,fin],show zdg from f,.Attribute o name apos,.ins C [("numbers",.ref (h0.length+1))],.ins C [("numbers",.ref (h0.length+1)),("risen_by",.ref (h0.length+2))],Qa (Qb 0) Qc,(by rw[d]at g;injection g with j _;let:c=b:=by simpa using congrArg Array.toList j),Qa (Qb 2) (Qa qjh Qc),Qa (Qb 4) (Qa (Qe wIx (Qb 6) (mC (.int 1))) (Qa (Qe wIx (Qb 6) (mC (.int 2))) (Qa (Qe wIx (Qb 6) (mC (.int 3))) Qc))),Qa (Qb 2) xNc,Qa (Qb 4) (Qa (Qe Z3 (Qe wIx (Qe wIx (Qe wIx (Qb 1) (Qb 4)) (Qb 5)) (mC (.int 2))) (mC (.int 1))) (Qa (mC (.bl false)) Qc)),Draws.list (A:=X.A.in1) (I.ok.hd hc) it l B a.toArray,mC (.ty "tuple"),Ng (by decide) (EC _ _),St.drawsT (A:=X.A.in1) (I.ok.hd hc) it l B a.toArray,λY=>Lx (ES (name:=zHi) Y slotN (Eu slotN Y Qjp ?_ (QoB _))),(by ·show#[o1,N,λv q=>by rw[d1]at q;cases q]),Ng m qt5,d.put f xSe,Qh 2 Zc (Qa (Qb 6) (Qa (Qb 7) Qc)),Qh 2 Qr (Qa (Qb 1) (Qa (Qb 0) Qc)),Qh 2 ZK xNb,Qh 2 Zz (Qa (Qb 0) (Qa (Qb 1) Qc)),Qh 2 Zz (Qa (Qb 0) (Qa (Qe Z3 (Qb 1) (mC (.int 1))) Qc)),(by let#[v,l]:=V8 (L:=B) (k:=key) xU7),SetL prog w h' a xYf led/\P={ s with heap:=h' },Ro M a b,.call (.ref X) #[[.ref a],[]],(by rcases m.kd with q|q;·rcases z.1 with z|z<;>rw[q]at z<;>cases z),#[_,rfl,Nn h],(List.range (R.map zFa).length).map rf,λS=>(by let S:qT9:=by rw[Ea,c.1];show Nh zh7 (AM i)),(by unfold ZO at c;rw[Nq,FT]at c),tf (tf (tf zI6 6) 8) sz,tb W.int qth,(Value.ref d==Value.none)=true,(Value.ref l==Value.none)=true,Rws.cons (Rw.mono e _ _ g2) Rws.nil,by show(lY p,p),(by let#[o,p,l]:=hN a j m;show xX0),by simp only[ND]<;>show Nh (Nv d.symm) j,(by unfold th at e;cases e),(λo e=>y D o (by simpa using r) e),tb kO qqj,Q xZ7 { s with toks:=s.toks+dN n k },(by obtain⟨f,rfl⟩:∃k,f=k+1:=#[f-1,by omega]),J.map Qf,(by unfold ZO at m;rw[Np,Ft]at m;let#[#[D,j],A,rfl]:=ό m),b.cl t _ c xX7,Builtin.Tuple.tupleItemsOf (.ref t)>>=_,.ret (.bool true),.ret (.ref s.heap.objs.size),mUn (Jp a "risen_by") (Qb 1),! xdh y x&&risingS y r,#[[],[],.nil,.nil,rfl,λj u p hu=>by simp at hu],kt_code_dict_new _ #[rfl,rfl],YT (Qa (mC (.int 4)) Qc),Qe wLt (mFn ZL (Qa (Qb 5) Qc)) (mC (.int 2)),Qe wLt (Qe wIx (Qb 1) (Qb 0)) (Qe wIx (Qb 1) (Qe Z3 (Qb 0) (mC (.int 1)))),(by let g:j<b.size:=by rw[c.1];show Ng i (Nv d.symm)),(by let#[f,m,l]:=g zf6 rfl),.builtin "isinstance",w++[o],Qa (Qb 2) (Qa (Qb 6) Qc),Qa (Qb 3) (Qa (Qe wIx (Qb 1) (Qb 0)) Qc),Qa (Qb 6) (Qa (mC (.ty "tuple")) Qc),Qa (mC (.int 3)) (Qa (mC (.int 3)) (Qa (mC (.int 3)) (Qa zL5 Qc))),(λb o d e=>D b o d xY3),a.getD i 0>a.getD j 0,x=="__debug__",if([]:xq4).isEmpty then 0 else 1,λb=>(St.srt (St.uniq b)).map .str,by show Ni (Nv l) (by decide),holding [Value.ref a] _>>=_,(by show Tp d;rcases d with rfl|d;·show N6 _),(λx=>decide (x.1∉gn M s)),Q[i]'(Ng m qt5),(by let:=hu;rw[Fi,hv]at this;show NZ this),Builtin.Dict.pairItems (.ref a),.Attribute o x apos,(λc a=>a=st/\∃l o,c=(nO,l,o)),∀b t,C b { s with heap:=g,toks:=t },.Call (.Name x p) es [] pos,pth F++[.ref i],h++[.lst ws],[#[tg,iter,[c],0]],f j=sO w->ŵ R' w v,keywordEach [] env,ia+ib,Qh 1 ZX (Qa (Qb 1) Qc),(Qen (by decide)).trans a.1.2,by simp only[pur,Zm,this La,this Zbf];rfl,un9 rfl xXb,[#[tg,iter,[],0]],sO (.Name x pos'),Eu Dd hit.typeIs IW ?_ (IK _),Eu Fk hit.typeIs Om ?_ (Oh _),W.go M kk pos i T _ _ _ f λai J D=>?_,(pendingOf s).push zZ1,(KI (by decide)).trans a.1.1,hI p out M P G (Ls++[[]]),(pls M wd).map QZ,if _ then _ else _,Builtin.Dict.addKeywords D []>>=_,way++[(part,k)],I.ok.cab x c L t,(by let#[_,_,rfl,_]:=r;rfl),by rw[<-i.length,<-g.length];show A,(by refine#[e,λt d=>?_];simp at d),(by ·refine bP ?_;simp at en b;simp[QY,QD,Qf,e,en,b]),#[a,b,I.unwish,q],DctE prog w h' d (storedH xs k a v),by rw[if_neg (show¬((Value.ref l==Value.none)=true)from N5)],Ez _ f xT7,Flow.ret v,by dsimp only;refine ZE (QI iC) ?_,(by unfold List.lookup at e ⊢;dsimp only at e ⊢),(λi v=>its[its.size-1-i]?=sO v),(by let:=Fw o;let#[k',_,rfl]:=Ny.mp this;rfl),UL e (Al.rc s (c s b)).v,c.toArray.size+a.toArray.size,d zY3 rfl,field (.ref it) 0>>=_,field (.ref it) 1>>=_,seqItems? (.ref l)>>=_,(by let#[_,#[old,g],#[o1,N,c1,d1]]:=st),#[a,b,h,ZP (by simp[u,pth]),I.d],(λf m v e=>fin c i j f m v e),(λh' k=>z h' λb m a e=>k b m ?_),MS X Y Z (Nat×Nat),MS X Y Z (Nat×Nat×Nat),jk3=sO (a,ns)/\as=w::a,Ni hu (by decide),ask p out M v.1 q=(k,v.2),(by let#[a,xs,d,c,b]:=r),rest.length+1,show(26:Int)≠0 by decide,sO (.str x.1),hL S G (Ls++[[]]),ei nO nO nO nO nO nO nO nO,.int (g i j) s.toks,(by let#[old,g]:=S;let#[o1,N,_]:=U),seqItems? (.ref a),items.toList.zip a.toList,by simpa using(J b o e).1,x==("__classdict__":Str),sO (.Attribute o f pos'),(λ_=>rfl),atI ws i,Qf (sq out j),λF z=>(by rw[entry_at F j,Nl i]at l;cases l;rw[Ee,NT g,z,Nl i];rfl),ja1/2,tO Zbd,hG G (Ls++[[]]),wa (EE p out) v.1.1,xs=[.int i,.int j],#[_,p.isList],((sO nO,a.snd.fst,a.snd.snd)),xA0>xA1,JP (Qe wIx (Qb 8) (mC (.int 3))),JP (Qh 1 VS (Qa (Qb 2) Qc)),JP (mFn Wp (Qa (Qb 5) (Qa (mC (.ty "list")) Qc))),by simp only at m f d,kst Zad _=_,by rintro rfl;show y0 v,args_tuple_getitem _ _,#[_,rfl,Rws.append i g],((n,NameKind.cell)),St P Zbb,typeOf (.ref C),HT.sIx xs.length 0 lo,Yaz Zb7,.type "StopIteration",(λb o d e=>hk b o d e),by rw[<-z];show El _,(by let#[C,g,rfl,#[B,c,d,_],_]:=q),starEach [b] X.env,mC Zbc,by rw[i.int_eq,g.int_eq],Oa Zb8,λa=>Na (Iy a hd (x:=zkb i) rfl ?_),QcY f v fs,by simp[hB,bst,c,e,u,EG,rW,tO,My4.top,E],by simp[hw,c,a,e,hk],#[_,H,I.kept k,?_,q],spM X.K ps.length g,[#[target,iter,t,0]],storedH xs k a dflt,by rw[Np];show lZ i j f,.Tuple elts kk tpos,keyKind' vs.toArray,p.endLine==pos.line,QR ["pair",a,w,b,c],((nomatch h)),mC (.str c),((items,nO,h)),(by let:¬es.size>1:=by show N4.mpr z),by rw[Ly];show N5,[b.st.head?],by rw[hB];show hk,(y.size:Int) != 0,[.Attribute o f pos'],Xn I u q n ?_ o c,(s.mono f).set rv,spM K ps.length g,(by let#[_,E,j,C,P]:=f.dicAt t D),Obj.putSet b t' o,#[o,D T o ae Z,ab,q],.int j u,Na (eq (m y p) qM8),Nn (Na (Na ?_)),sO (.tup [.str "grows",.str d,.lst m,.lst l]),sO (.lst ((d::r).map .str)),(k,x)::r,y::r,h++[.dic (dK (shL M out w))],h++[.dic (fd FD)],mFn f ms,main g e,((w::p.1,p.2)),(by let#[ad,t,e,B,q]:=y;subst e),(EW _).symm,(its.size:Int)-1,hd t d.symm,by simp[hw,c,hk],by rw[Wl r];show q,(λx=>x.1.isSome),#[d,c,j,i,rfl,rfl],(by subst N;let ae:=W.apart i T _ f),Sl L Rr (n+1) c,λh=>t x=true->me a h=sO (g x,h),IsRange.new ..,QaQ I i g ?_ a,(by let#[n,g,b,a]:=f.lstI m i),b=c.heap.objs.size,.dict es.toArray n,QR (y::r),args_sorted1 _,#[Nh q y.1,y.2],Qm (mSl (Qb 5) KF (Jb (mUn VX (mC (.int 1))))),∀y∈a,y∈b,Zj J (Zj e2 Y),k j l v a b c,(by let#[T,B,rfl,t,rfl,s]:=q),keyPart .none,#[rfl,0,1,rfl],#[rfl,_,_,rfl],keyLt' κ x y,Looks.of_pure rfl,b*69621+12345,sO k,hl j y v' l D e3,#[o,p,a,j,I3,l],by ·rw[NH,NP,FP];lia,!(a==b),by simp only[ZM,Nj,e,frN,FP,YbQ],#[o1,N,trivial],.Tuple i N j,((nO,lo+n)),nm t,(EW (by simp)).symm,rv (bk x),λc=>(by intro b c h;let hk:=y0 k;rw[Ei]at c),XE I.L.i rfl,#[f,r,rfl,q],#[_,_,rfl,h],items.map f,Fp f d b ?_,#[_,g,trivial],.str "tell",λj W0=>(j::W0).getLast (by simp),sO (.int e.1.1),Nv hl.symm,.dT b,((items,src,h1)),hk b o d e,u=Value.ref ad,Ff n hd ?_,Nv hk.symm,aW p out M e.1,pth F,((r.length,t,0)),cne y c e,#[_,p],#[o,e,d.2.1],!Kf as bs,.ret dflt,ks++[x],es.size>1,b.erase k,#[o,e _ b,r],N4.mpr hT,λB h2=>DP (T:="tuple") #[o,B,h2] ?_,ia+(ib+1),2*e+d+d+n,λg1=>by rw[g1.pend];show q.ch,.tail _ f,[(0,j),(1,i)],Bk.map Q2,hN w n k,pyHash v,sO (.ref c),sO b,sO (.int k),sO (.tup (x.2.map QR)),sO (.int q),sO (.lst ((gn M (sq out q)).map .str)),sO (V1 (mdS p (sq out q))),sO (.str w),Hp->Prop,j<=i,Nt (Ni p (by decide)),q.ne c d,SqL.of q,Kf as bs,o ..,NT g,(by let j:=a (.r n) rfl),λm=>Nn (Na (Ic m rfl ?_)),.ret res,.error e,(by let#[t,u,hu,rfl]:=L),#[rfl,?_],ex b o e,E.map QR,cd "end",p[q.1]?=sO x,by simp[Qv,QD,Qf,QW,Ga,e,hk],fd c,((as,h1)),f _ _ r,(by subst this;show r.inj i),f.length<=j,#[n,rfl,c],NB _ hw,tCB r t,by rw[ND,c],λf=>I.lstM f,(by let F:=VE B L;subst F E),IL hd _,Io hd _,YM (k:=g) t,.bool false,I (i+1),.int 18,((a.fs,z,en)),e.1∈S,e.1::Lb,ķ (É (Ŝ Q1 jwb)),Qh 6 Zi xJ8,mFn Wp xNd,.Call zDi [a] [] pos,Qe wIx (Qb 0) (Qe wIx (Qb 1) (mC (.int 1))),Qa (Qb 3) (Qa (Qb 0) Qc),lnW p (sq out j),Qh 3 Zo (Qa (Qb 0) (Qa (Qb 1) (Qa (Qb 4) Qc))),mFn Wp xKf,mFn Wp (Qa (Qb 5) (Qa qjh Qc)),show¬xM4 from N5,tf zb1 bs.length,(d::r).map .str,eq (m y p) qM8,(tk f2 26+st*(0+(k:Int)))%26,Ng (NL e) I.ok.above,tf q 3,Qh 1 VS (Qa (Qb 2) Qc),Nh (Nv A) N,a.size-na,Na (Na ?_)]
noncomputable section
namespace _Z
/-! THE HAND LAYER, for ints, bools, texts, own classes, LISTS and tuples (index, slices, in, append, pop ..), calls, loops. Paste it whole ahead of your own text; what your proof does not reach may be deleted. -/
open PySem renaming wpAny_bind->Na,wpAny_pure->Nn,wpAny_holding->N9,wpAny_mono->Eb,wpAny_call_entry->Eu,wpAny_newObj_type->ED,wpAny_callSpecial?_slot->ES,wpAny_loadPart'->Dq,wpAny_rule->Ds,codeAny_builtin->Dt,wpAny_setField->DA,wpAny_Call_Name_kw->DJ,wpAny_specialOf->DN,wpAny_typeOf->DP,plainId_quiet->DR,wpAny_typeNameOfWhole_keyiter->DS,mem_of_lookup->DW,sizeLine_eq->D0,wpAny_passesOwn->D8,wpAny_notOrdered_dict->Fe,wpAny_dictEpoch->Ff,builtinLookup_eq_fast->Fg,wpAny_setState_of->Fp,wpAny_typeNameOf_keyiter->FC,wpAny_askSetting->FE,wpAny_getItem_str_slice->FK,wpAny_pyIter_list->FX,wpAny_dictEntries->FY,wpAny_seqItems->F5,codeAny_mono->F6,wpAny_fieldsOf->Ic,wpAny_isInstance->Ij,wpAny_forIn_list->Ik,wpAny_field->Iy,typeLookup_type->IE,wpAny_pyIter_tuple->IJ,call_meets->IV,wpAny_pyIter_enum->Li,storedH_new->Lp,wpAny_standAt->Lv,wpAny_attempt->Lx,beq_builtin_none->Ly,wpAny_isOneOf_keyiter->LA,wpAny_execs_nil->LJ,call_meetsIn->LQ,post_val_or_str->LR,wpAny_updateSeq->LU,size_of_entries->LX,wpAny_pyIter_revIter->LZ,wpAny_setEntries_of->Ob,isSubtype_type->Og,wpAny_newList->Ov,eqIsQuiet_byValue->Oy,wpAny_truthy_bool->OA,wpAny_sequenceKey->OF,wpAny_pyIter_slot->OH,noFill_tuple_add->OT,wpAny_ite_split->Yaf,wpAny_pyNext_range_end->Yag,wpAny_pyIter_rangeiter->Yah,wpAny_Assign_Subscript->Yan,wpAny_of_eq->Yar,typeIs_none->Yat,callType_codes->YaB,wpAny_loadName_local->YaH,wpAny_load->YaI,wpAny_pyIter_keyiter->YaM,wpAny_updateDictKeys->YaN,codeAny_extend_loopS->YaP,seq_tuple_add->YaS,wpAny_handled->YaU,Within->Ya5,concat_meets->Ya9,seqIndex_neg->Ybb,list_append->Ybp,putAt->Ybx,call->YbN
open Option renaming bind_eq_some_iff->Nc,map_eq_some_iff->Nf,bind_some->Nj,map_some->N0,map_eq_none_iff->D4,isSome_map->Fo,isSome_iff_exists->FA,toList_some->FS,isNone_iff_eq_none->IF,map_none->LS,isSome_eq_false_iff->Ox
open List renaming getElem?_eq_some_iff->Nd,getElem?_eq_getElem->Nl,getElem?_map->Np,length_map->Nq,map_cons->Nw,mem_map->Ny,mem_singleton->Nz,mem_cons_of_mem->NB,getElem?_append_left->NC,size_toArray->ND,mem_cons_self->NF,length_append->NH,mem_append->NI,mem_cons->NJ,mem_iff_getElem?->NN,length_cons->NP,mem_append_left->NR,mem_append_right->NS,map_append->NU,find?_cons->NV,getElem?_eq_none->NY,map_map->Ec,take_length->Ef,nodup_append->Eh,nodup_cons->Ei,mem_of_getElem?->Ej,drop_eq_getElem_cons->Ek,length_singleton->Em,length_set->Eo,mem_range->Ep,length_reverse->Er,getElem?_append_right->Et,append_assoc->Ey,nodup_nil->EF,getD_eq_getElem?_getD->EH,length_eq_zero_iff->EI,map_congr_left->EJ,length_take->EK,mem_filter->EM,append_nil->EN,mem_map_of_mem->EO,lookup_cons->ER,getElem?_set_ne->EV,dropLast_concat_getLast->EW,getElem?_range->EZ,length_filter_le->E2,take_add_one->E3,getElem?_set_self->E6,filter_cons->E7,ext_getElem?->E8,any_cons->De,map_nil->Dg,mapM_cons->Dh,findIdx?_eq_some_iff_getElem->Di,nil_append->Dj,getElem_mem->Dw,find?_eq_none->Dx,mem_iff_getElem->Dz,length_pos_iff->DD,drop_eq_nil_of_le->DF,filter_eq_nil_iff->DG,mem_flatMap->DI,filter_append->DM,getElem?_cons_succ->DU,of_mem_zip->D9,getElem?_toArray->Fi,filter_map->Fj,length_range->Fl,getElem?_zipIdx->Ft,mem_of_mem_take->Fv,mem_of_find?_eq_some->Fw,all_eq_true->Fz,not_mem_nil->FF,sum_cons->FO,length_nil->FP,range_succ->FQ,length_zipIdx->FT,reverse_cons->FV,getElem?_set->FW,pairwise_map->FZ,concat_eq_append->Ig,take_succ->Ii,getElem_inj->Il,mem_reverse->Iq,nodup_range->Ir,filter_eq_self->Iz,toList_toArray->IA,forIn_cons->IC,findIdx?_eq_none_iff->ID,mem_filterMap->IG,length_erase_of_mem->IP,zip_cons_cons->IR,length_filterMap_le->IT,foldl_append->Lf,flatMap_cons->Lj,take_of_length_le->Lq,length_pos_of_mem->Lr,take_succ_eq_append_getElem->Lz,getElem?_reverse->LB,take_append_drop->LC,eq_nil_or_concat->LG,reverse_reverse->L0,mem_erase_of_ne->L3,getElem?_modify->L4,filterMap_cons->L8,map_eq_nil_iff->Oc,filter_sublist->Od,map_id->Oj,idxOf_lt_length_of_mem->Oo,all_cons->Os,length_eraseIdx_of_lt->Ou,getElem?_inj->OG,find?_isSome->OK,filter_congr->OL,getElem?_eq_none_iff->OP,eq_of_mem_replicate->O0,countP_cons->O1,cons_append->O2,map_reverse->O3,map_set->O4,getElem?_replicate->O7,all_eq_not_any_not->O8,foldl_cons->Yae,drop_of_length_le->Yas,dropLast_eq_take->Yay,mem_of_mem_drop->YaR,mapM_nil->YaV,replicate_succ->Ya1,countP_append->Ybf,map_inj_right->Ybg,getElem_idxOf->Ybh,filter_filter->Ybj,any_eq_false->Ybm,take_sublist->Ybo,getElem?_nil->Ybq,findIdx?_nil->Ybr,find?_append->Ybv,length_drop->YbA,any_toArray->YbC,range'_succ->YbD,append_inj'->YbI,any_eq_true->YbK,range_zero->YbQ
open Nat renaming lt_of_lt_of_le->Ng,le_trans->Nh,lt_of_le_of_lt->Ni,le_of_lt->Nt,le_add_right->Nu,le_of_eq->Nv,le_refl->NA,ne_of_lt->NK,zero_add->NO,zero_le->NQ,add_lt_add_left->NW,add_le_add_right->NX,lt_trans->N2,not_lt->N4,lt_succ_self->N6,lt_irrefl->El,add_le_add_left->Es,ne_of_gt->EB,le_add_left->EC,add_assoc->EG,lt_of_succ_lt->EU,sub_le->EY,add_sub_cancel'->E1,lt_succ_of_lt->E4,add_right_comm->Dk,le_antisymm->Dr,min_le_right->Dv,add_lt_add_right->DB,succ_le_succ->DH,pos_of_ne_zero->DK,lt_of_le_of_ne->DL,add_sub_cancel_left->DT,mul_le_mul_left->DX,le_succ->D1,not_le->D3,add_comm->D6,not_lt_zero->Fh,one_pos->Fx,sub_lt->FU,lt_succ_of_le->F4,mul_le_mul->Ia,sub_le_sub_left->IB,succ_pos->IM,succ_add_eq_add_succ->IS,le_of_lt_succ->Ld,lt_trichotomy->Lg,lt_of_succ_lt_succ->Lu,mul_le_mul_right->L5,le_succ_of_le->OI,sub_pos_of_lt->OJ,sub_lt_left_of_lt_add->OO,lt_or_ge->OX,not_lt_of_le->OY,succ_mul->O5,not_le_of_lt->O6,lt_add_of_pos_right->Yaa,min_eq_left->Yad,sub_add_sub_cancel->Yau,add_le_of_le_sub'->YaC,add_mul_div_right->YaG,zero_lt_of_lt->Ybu,le_of_succ_le->Ybw,min_eq_right->Ybz,succ_ne_self->YbF,add_pos_left->YbG,sub_sub_self->YbH,div_eq_of_lt->YbJ,succ_lt_succ->YbL
open PySem.W renaming Frag->Nk,kia_one->EX,keepIn->E5,findIn->Df,emptyDict->Dm,fnOf->DE,instObj->DO,mg_of->FN,nsIn->F9,plainGet->Im,codeIn->IU,hasDictIn->Lc,makesIn->LK,plainGet_of->L9,lookIn->Oe,methodObj->Oz,plainOver->OC,kitx_list->OD,isFn->OS,kdl_call->OW,takerIn->Yac,cellsFrom_some->Yaj,methodCall_KW->Yax,pyHash_slot->YaW,callWith_K0->YaX,kitx_tuple->Ya7,callWith_K->Ya8,kitx_dict->Ybn,handedIn->Yby,KeysLit->YbP,kitOne->YbR,WalkO->YbT
open PySem.Heap renaming get?_push_of_some->Nr,lt_size->NL,get?_push_size->NM,get?_update_self->Ez,get?_update_other->EL,size_push->DY
open Array renaming getElem?_eq_getElem->NT,length_toList->Ea,getElem?_toList->Ee,toList_push->Le,getElem?_eq_none->Lm,mem_of_getElem?->LF,toList_setIfInBounds->Ow,mem_toList_iff->YaJ,forIn_toList->Ya4,size_append->Ybs
open Option.some renaming inj->NZ,injEq->F3
open PySem.Heap.SameBut renaming update->N1
open Bool renaming and_eq_true->N3,false_ne_true->N5,eq_iff_iff->Ew,false_eq_true->Du,or_eq_true->DC,and_false->Fy,and_true->Iu,or_false->YaT
open PySem.Paired renaming length->N7,snoc->Yam
open Ne renaming symm->N8
open PyProof.Rows renaming callWith_type1->EA,slot_tuple_getitem->ET,boot_list->Dy,callWith_builtin1->LM,boot_tuple->Yab,subscriptTail_builtinR->Yak,boot_dict->Yav,boot_max->YaD,boot_sorted->Ybl
open Int renaming toNat_natCast->E9,emod_nonneg->DQ,emod_lt_of_pos->D7,toNat_of_nonneg->FI,eq_ofNat_of_zero_le->FJ,le_of_eq->F7,zero_add->II,ofNat_le->LN,le_trans->LO,lt_of_le_of_lt->On,not_le->OM,ne_of_gt->OR,le_refl->Yao,le_of_lt->Ya6,natCast_nonneg->Yba,not_lt->YbM
open Function renaming comp_def->Da
open PySem.F renaming slot_dict_keyiterator_next->Dd,plainAttrs_list->DV,slot_dict_setdefault->DZ,slot_dict_get->Fb,slot_tuple_iterator_next->Fk,called_set->FG,plainAttrs_dict->FL,slot_list_extend->F8,slot_NoneType_hash->Ip,slot_dict_contains->Iv,args_tuple_add_2->IH,args_dict_keyiterator_next_1->IK,slot_list_getattribute->IQ,entry_dict_keyiterator_next->IW,entry_tuple_add->IX,args_dict_get_3->IY,slot_tuple_add->Lk,entry_dict_get->Ll,plain_extend_loop->LD,slot_list_append->LP,args_dict_setdefault_3->LY,entry_dict_setdefault->L6,args_tuple_iterator_next_1->Oh,type_dict_setdefault->Oi,entry_tuple_iterator_next->Om,slot_dict_getitem->ON,type_list_extend->OZ,slot_list_index->O9,slot_dict_iter->Yaq,type_dict_get->YaE,args_list_append_2->YaK,args_list_extend_2->YaL,kt_typeCall_dict_1->YaQ,entry_list_append->YaY,entry_list_extend->YaZ,slot_list_pop->Ybc,args_dict_init_2->Ybe
open PySem.Around renaming under_plainId->Dl
open LawfulBEq renaming eq_of_beq->D5
open Classical renaming byContradiction->Fq,choose_spec->YaF
open List.Pairwise renaming imp_of_mem->FH
open PySem.Obj renaming data_mapDictKeys->Io,data_mapFields->IL,isFreed_of_dict->Oa,isFreed_of_fields->Yaz,cls_mapFields->Ybt,data_mapDict->YbE
open Int.ofNat renaming inj->Iw
open PyProof.Rows.F renaming plain_set_update_loop->IZ,entry_set_update_loop->Qq
open PySem.WalksT renaming enumerateD->Lh
open List.cons renaming injEq->LV
open PySem.Value renaming isStrOf_shape->L7
open PySem.Builtin.Dict_items renaming ownsTuple->Of
open PySem.Calls renaming spliced_cons->Ol,Name_function_global->Oq,spliced_nil->OE,call_function_entry->OQ,callWith_builtin->Yal
open PySem.Txt renaming slice_le->OU
open PySem.AutoSeq1 renaming sub_tuple_tuple->OV
open PyProof renaming noPylong_small->Yai
open PySem.Str renaming ofString_eq_toList->Yap
open List.Sublist renaming countP_le->Yaw
open PyProof.Rows.StrsAre renaming length->YaA
open PySem.Walks renaming list->YaO
open Std.Legacy.Range renaming forIn_eq_forIn_range'->Ya0
open PySem.SeqAt.EqAt renaming int_str->Ya2,str_int->Ya3
open PySem.Code renaming quiet_builtin->Ybd
open List.Nodup renaming sublist->Ybi
open Iff renaming rfl->Ybk
open PySem.IsL renaming update->YbB
open PySem.Heap.DictOf renaming new->YbO
open PyProof.Rows.IsTup renaming new->YbS
open PySem PySem.Spec PyProof.Rows
open Option renaming some→sO,none→nO
namespace L2
noncomputable abbrev Key:=Sum Int Str
abbrev Qcr:Key->Value->Bool
 |ß k,v=>Value.isInt k v
 |ô x,v=>Value.isStrOf x v
abbrev QwY(w:World):Key->Int
 |ß k=>hashInt k
 |ô x=>xvj
def Za:∀{k:Key} {v:Value},Qcr k v=true->(∃i t,k=Sum.inl i/\v=xjg)\/(∃x t,k=Sum.inr x/\v=zT5)
 |ß i,v,h=>by
  let#[t,e]:=Value.isInt_shape (k:=i) (v:=v) h;show đ #[i,t,rfl,e]
 |ô x,v,h=>by
  let#[t,e]:=L7 (x:=x) (v:=v) h;show ÿ #[x,t,rfl,e]
def QdB(i:Int)(t:Tok):Qcr zmf ky=true:=by simp[Qcr,Value.isInt]
def Qfh(x:Str)(t:Tok):Qcr zmi xoi=true:=by simp[Qcr,Value.isStrOf]
def Qqe(a b:Int):decide (zQ7=jd2)=zdb:=by
 show qY e a b
 ·let h:¬zQ7=jd2:=λq=>e (Sum.inl.inj q);rw[ϔ h];show qme e
def Qqo(a b:Str):decide (zQ8=jd3)=gp:=by
 show qY e a b
 ·let h:¬zQ8=jd3:=λq=>e (Sum.inr.inj q);rw[ϔ h,ϔ e]
def Qog(a:Int)(b:Str):decide (zQ7=jd3)=false:=jz4
def Qot(a:Str)(b:Int):decide (zQ8=jd2)=false:=jz4
abbrev Jh(prog:Program)(w:World):PySem.KeyKind prog w Key where
 is:=Qcr
 hash:=QwY w
 inj:=λv a b g f=>by
  show nC g i t x
  ·show zEb f j
   ·show zX6;rw[c]
   ·show jd4
  ·show zEb f j
   ·show jd4
   ·show zX6;rw[c]
 byValue:=λk v h=>by
  rcases Za h with⟨i,t,rfl,rfl⟩|⟨x,t,rfl,rfl⟩<;>rfl
 pyHash:=λd h=>by
  show nC d i t x
  ·show qRj
  ·show qS0
 eqBool:=λhu d h=>by
  rcases Za hu with⟨i,t,rfl,rfl⟩|⟨x,t,rfl,rfl⟩
  ·show nC d j u y
   ·rw[Qqe]at h;show wpAny_eqBool_int h
   ·rw[Qog]at h;show Ya2 i t y u _ _ _ _ h
  ·show nC d j u y
   ·rw[Qot]at h;show Ya3 x t j u _ _ _ _ h
   ·rw[Qqo]at h;show wpAny_eqBool_str h
 «strs»:=λk x t v h=>by
  show zEb h i
  ·show jd4
  ·show zX6
   subst c;show ST v
def G0(prog:Program)(w:World)(i:Int)(t:Tok):(Jh prog w).is zmf ky=true:=QdB i t
def Qae(prog:Program)(w:World)(x:Str)(t:Tok):(Jh prog w).is zmi xoi=true:=Qfh x t
inductive V where
 |non|bl (b:Bool)|int (i:Int)|str (x:Str)|byt (b:Array UInt8)|flt (b:UInt64)|ref (a:Addr)|ty (n:String)
 deriving DecidableEq
abbrev RelV:V->cf
 |.non,u=>zV4
 |.bl b,u=>u=zi6 b
 |Â i,u=>zF2
 |Ü x,u=>∃t,u=zT5
 |.byt b,u=>qK8
 |.flt b,u=>qK9
 |Ä a,u=>MZ
 |.ty n,u=>xfb
noncomputable abbrev Vals:Ø->Ï->Prop:=Paired RelV
def Vals.length{xs:Ø}{us:Ï}(r:Ϝ):qOi:=N7 r
def Vw{c d:Type}{F:c->d->Prop}{b:ä c}{a:ä d}{j:Nat}{x:c}(p:uX F b a)(e:b[j]?=sO x):∃v,a[j]?=sO v/\F x v:=by
 induction p generalizing j with
 |nil=>cases e
 |cons r t f=>
  cases j with
  |zero=>show Ω e xw0
  |succ j=>show f e
def Vals.get{xs:Ø}{us:Ï}{i:Nat}{x:V}(p:Ϝ)(e:xw1):∃u,xw3/\ó x:=
 Vw p e
def Vals.set{x:V}{u:Value}(r:ó x):∀{xs:Ø} {us:Ï} (i:Nat),Ϝ->Vals (xs.set i x) (us.set i u)
 |_,_,_,.nil=>.nil
 |_,_,0,.cons _ t=>ė r t
 |_,_,i+1,ė q t=>ė q (Vals.set r i t)
def Vals.append{xs b:Ø}{us ws:Ï}(a:Ϝ)(s:Vals b ws):Vals (xs++b) (us++ws):=
 a.rec s λr _ h=>ė r h
def Vals.take:∀{xs:Ø} {us:Ï} (n:Nat),Ϝ->Vals (xs.take n) (us.take n)
 |_,_,0,_=>.nil
 |_,_,_+1,.nil=>.nil
 |_,_,n+1,ė r t=>ė r (Vals.take n t)
def Vals.drop:∀{xs:Ø} {us:Ï} (n:Nat),Ϝ->Vals (xs.drop n) (us.drop n)
 |_,_,0,r=>r
 |_,_,_+1,.nil=>.nil
 |_,_,n+1,.cons _ t=>Vals.drop n t
abbrev RelO:Δ V->vG->Prop
 |è v,sO u=>ó v
 |none,nO=>True
 |_,_=>False
abbrev KV{κ:Type}:jb->jQ κ->Prop:=Paired λ(p:κ×V) (q:κ×Value)=>zj1/\RelV p.2 q.2
inductive Tr where
 |i (n:Int)
 |s (x:Str)
 |t (ks:Hu)
noncomputable instance trDec:DecidableEq Tr:=qug
abbrev IsT(h:Heap):jp3
 |0,_,_=>False
 |_+1,.i k,v=>(∃t,v=.int k t)\/∃b:Bool,v=zj2/\qM7
 |_+1,.s x,v=>xc5
 |n+1,.t ks,v=>∃a its,ϐ/\kl/\rj jac
def Qhp{e d:Type}{F:e->d->Prop}(hi:∀x y v,F x v->F y v->x=y){xs c:ä e}{vs:ä d}(p:Paired F xs vs)(q:Paired F c vs):xs=c:=by
 induction p generalizing c with
 |nil=>cases q;rfl
 |cons a s f=>cases q with|cons b t=>rw[hi _ _ _ a b,f t]
def Qab{h:Heap}{n:Nat}{x:Tr}{a:Addr}(c:IsT h n x ħ):∃m ks its,n=m+1/\x=.t ks/\kl/\rj (IsT h m):=by
 cases n with
 |zero=>show C5 c
 |succ n=>
  cases x with
  |i k=>rcases c with⟨t,e⟩|⟨b,e,_⟩<;>cases e
  |s y=>show ye e c
  |t ks=>let#[d,its,e,p,q]:=c;show ï e #[n,ks,its,rfl,rfl,p,q]
def Qan{h:Heap}{a:Addr}{x y:Ń}(e:h.IsTuple a x)(d:h.IsTuple a y):x=y:=by
 let#[o,g,_,n,f]:=e;let#[i,c,_,j,b]:=d;show ð g c;rw[f]at b;injection b
abbrev gT:Value->Tr
 |.int i _=>.i i
 |zj2=>.i (qe2 b)
 |.str x _=>.s x
 |_=>.t []
def QnE{h:Heap}{n:Nat}{x:Tr}{v:Value}(c:sY x):(∃a,ϐ)\/x=gT v:=by
 cases n with
 |zero=>show C5 c
 |succ n=>
  cases x with
  |i k=>rcases c with⟨t,rfl⟩|⟨b,rfl,rfl⟩<;>show jg2
  |s y=>show(Ζ,jg2)
  |t ks=>let#[a,d,rfl,_]:=c;show ß (sQ a)
def Qfx{h:Heap}:∀{n:Nat} (x y:Tr) (v:Value),sY x->sY y->x=y:=by
 intro n
 induction n with
 |zero=>
  intro _ _ _ b _;show C5 b
 |succ n j=>
  intro x y v b d
  by_cases r:∃a,ϐ
  ·show ņ a r;let#[m,ks,i,e,rfl,p,q]:=Qab b;let#[o,s,c,l,rfl,g,f]:=Qab d;show Bi e l;cases Qan p g;rw[Qhp (λx y v=>j x y v) q f]
  ·rw[xji b,xji d]
def KM{g e:Type}{F G:g->e->Prop}(f:qOj){d:ä g}{c:ä e}(p:uX F d c):uX G d c:=
 jz0
def QeE{h h':Heap}{d:Addr}{o:Obj}{es ep}(j:zu7)(hd:bK)(r:Heap.SameBut d h h'){n:Nat}(k:Tr)(v:Value)(x:sY k):xoj:=by
 induction n generalizing k v with
 |zero=>show C5 x
 | succ n p=>
  cases k with
  |i k=>show x
  |s k=>show x
  | t ks=>
   let#[a,f,e,#[l,c,u,m,b],q]:=x
   let g:a≠d:=by
    rintro rfl
    show ð c j;rw[hd]at b;show nomatch b
   show#[a,f,e,#[l,ug r a g c,u,m,b],KM p q]
set_option backward.eqns.deepRecursiveSplit false in
abbrev hN(w:World):Nat->Tr->Int
 |0,_=>0
 |_+1,.i k=>hashInt k
 |_+1,.s x=>xvj
 |n+1,.t ks=>reduceHash (Builtin.Tuple.tupleHashOf (ks.map (hN w n)))
set_option backward.eqns.deepRecursiveSplit false in
abbrev dN:Nat->Tr->Nat
 |0,_=>0
 |_+1,.i _=>1
 |_+1,.s _=>1
 |n+1,.t ks=>qEd+1
section
variable{prog:Program}{w:World}{E:Ô}
def QdW{n:Nat}{A:Around}(e:jtg) :
  ∀(ks:Hu) (vs:Ï) (s:Shared) (b:Array Int) (Q:Array Int->Ϣ),Paired qY4 ks vs ->
  (∀a,a.toList=b.toList++ks.map (hN w n)->Q a { s with toks:=s.toks+qEd }) ->
  ò (forIn vs b λx r=>do let h <-pyHash x;pure PUnit.unit;pure (v3 (r.push h))):=by
 intro ks
 induction ks with
 |nil=>
  intro _ s b Q x h;cases x;show ύ (h b Å)
 | cons k ks f=>
  intro _ s b Q x h;cases x with
  |cons d c=>
   rw[IC];show(Ê (Na (e k _ s _ d ?_)),Ê zX8);refine f _ _ _ Q c (Ó a g);let:=h a (ν g);simpa[EG]using this
def Qnp:∀(n:Nat) (A:Around),vw->jtg:=by
  intro n
  induction n with
  |zero=>show λ_ _ _ _ _ _ x _=>x.elim
  | succ n e=>
   intro A hu k v s Q x h;cases k with
   |i k=>
    show zIj x b
    · show qRj
    · refine YaW (T:="bool") rfl F.slot_bool_hash entry_int_hash (args_int_hash _) (Ly _) (ü Cw) ?_;cases b
      show dS (show Ň (do ret (<-mkInt 0)) from Na qh2)
      show dS (show Ň (do ret (<-mkInt 1)) from Na qh2)
   |s y=>
    show(Ċ x,qS0)
   |t ks=>
    let#[a,d,rfl,#[o,c,f,m,hd],q]:=x;refine YaW (T:="tuple") #[_,c,f] F.slot_tuple_hash F.entry_tuple_hash (F.args_tuple_hash_1 _) (Ly _) (ü Cw) ?_;apply Ň (Builtin.Tuple.tupleItemsOf ħ>>=_);show(Ê (wpAny_tupleItemsOf c hd ?_),uV);rw[<-Ya4];refine QdW (n:=n) (λk v s Q=>e A.in1 f0 k v s Q) ks _ s #[] _ q (Ó b g);apply ż (retInt (Builtin.Tuple.tupleHashOf b.toList));rw[g];show ĵ (wpAny_mkInt (AU #[_,_,rfl,?_]));simpa[hN,dN,EG]using h
def QmI{n:Nat}{h:Heap}{e:Nat->Bool}:∀{ks ls:Hu} {us vs:Ï},Paired jac ks us->Paired jac ls vs->(∀(j:Nat) (x y:Tr),zid=sO x->AL=sO y->e j=cI x y) ->
  ((List.range (min us.length vs.length)).all e&&us.length==vs.length)=qEe:=by
 intro ks ls us vs p q d;let g:=N7 p;let f:=N7 q;rw[<-g,<-f]
 by_cases c:ks.length=ls.length
 ·by_cases hk:ks=ls
  ·subst hk;simp only[Nat.min_self,beq_self_eq_true,Iu,decide_true];rw[Fz];intro j b;rw[Ep]at b;rw[d j ks[j] ks[j] (Nl b) (Nl b)];simp
  ·let:qEe=false:=decide_eq_false λz=>hk (Tr.t.inj z);rw[this,Bool.and_eq_false_iff];left;let:∃j,zid≠AL:=Fq λz=>hk (E8 λj=>Fq λy=>z (ę j y));let#[j,b]:=this;let a:xw7:=Fq λz=>b (by rw[NY (AM z),NY (Nh zn1 (AM z))]);rw[List.all_eq_false];refine#[j,Ep.mpr Í,?_];rw[d j ks[j] ls[j] jih (Nl xc6)];intro z;rw[decide_eq_true_eq]at z;show b (by rw[Nl a,Nl xc6,z])
 ·let i:(ks.length==ls.length)=false:=xk c;rw[i,Fy];show(decide_eq_false λz=>c (by rw[Tr.t.inj z])).symm
open SeqAt in
def QuG {s:Shared}:∀(n:Nat) (A:Around),vw->∀(x y:Tr) (u v:Value),dh x u->dh y v->EqAt A s u v (AK (x=y)):=by
  intro n
  induction n with
  |zero=>show λ_ _ _ _ _ _ c _=>c.elim
  | succ n H=>
   intro A hu x y u v c f;cases x with
   |i a=>
    cases y with
    | i b=>
      let hd:decide (Tr.i a=Tr.i b)=zdb:=by
        show jz5 a b (Tr.i.inj q)
      rw[hd]
      rcases c with⟨t,rfl⟩|⟨p,rfl,rfl⟩<;>rcases f with⟨h,rfl⟩|⟨q,rfl,rfl⟩
      · show EqAt.int_int a t b h
      · show EqAt.int_bool a t q
      · show EqAt.bool_int p b h
      · let:=EqAt.bool_bool (A:=A) (s:=s) p q;cases p<;>cases q<;>show this
    | s b=>
      show(ņ h f,gQ c p)
      · show EqAt.int_str a t b h
      · show EqAt.bool_str p b h
    | t ks=>
      show(rp f,gQ c q)
      · show EqAt.int_tuple a t p Cw
      · show EqAt.bool_tuple q p Cw
   |s b=>
    cases y with
    | i a=>
      show(ņ h c,gQ f p)
      · show EqAt.str_int b h a t
      · show EqAt.str_bool b h p
    | s d=>
      show AV t c h f
      let hd:decide (Tr.s b=Tr.s d)=(b==d):=by
        show jz5 b d (Tr.s.inj q)
      rw[hd];show EqAt.str_str b t d h
    | t ks=>
      show(rp f,Ζ,zD2,EqAt.str_tuple b t p Cw)
   |t ks=>
    cases y with
    | i a=>
      show(rp c,gQ f q)
      · show EqAt.tuple_int a t p Cw
      · show EqAt.tuple_bool q p Cw
    | s b=>
      show(rp c,Ċ f,zD2,EqAt.tuple_str b t p Cw)
    | t l=>
      let#[ad,g,rfl,p,q]:=id c;let#[Z,m,rfl,M,F]:=id f
      by_cases B:ad=Z
      · subst B;let:=Qfx _ _ _ c f;rw[this,qS2];show xw8
      · refine EqAt.of_refs B ?_;let U:=H A.in1 jz1
        let L:=RcAt.tuples (A:=A) (s:=s) (e:=ju7) p M Cw (λj D C=>by
          let P:=N7 q;let N:=N7 F;let S:xw7:=uq P D
          let Q:j<l.length:=uq N C
          obtain⟨x,c⟩:∃x,zid=sO x:=#[ks[j],Nl S]
          obtain⟨y,f⟩:∃y,l[j]?=sO y:=#[l[j],Nl Q]
          let#[u,o,I]:=Vw q c;let#[t,r,J]:=Vw F f;rw[c,f]
          let Y:g[j]=u:=by
            rw[Ee,NT D]at o;show NZ o
          let X:m[j]=t:=by
            rw[Ee,NT C]at r;show NZ r
          rw[Y,X]
          show U x y u t I J)
        let:=QmI (e:=ju7) q F (λj x y D C=>by simp only[D,C]);rw[Ea,Ea]at this;rw[this]at L;show L
def QjZ {A:Around} {s:Shared}:∀(n m:Nat) (k:Tr) (v:Value) (Q:yi),dh k v->n<=m->Q true s->ò (eqIsQuiet m v):=by
  intro n
  induction n with
  |zero=>show λ_ _ _ _ x _ _=>x.elim
  | succ n y=>
   intro m k v Q x H h;cases k with
   |i k=>
    show zIj x b
    · show zRf
    · show zRf
   |s k=>
    show(Ċ x,zRf)
   |t ks=>
    obtain⟨m,rfl⟩:∃z,m=z+1:=#[m-1,Ð]
    let#[a,e,rfl,#[o,g,B,l,hd],q]:=x;let j:s.TypeIs ħ "tuple":=#[o,g,B]
    unfold eqIsQuiet;show Ê (DN j F.slot_tuple_eq.lookup ?_);apply Ň (isInstance ħ tQ>>=_);show(Ê (Ij j isSubtype_tuple_tuple ?_),qGe,Ê (F5 g hd ?_),uV);apply Ň (forIn e _ _);rw[<-Ya4];refine Ik _ (λrest r d=>r.1=nO/\d=s/\∃c,Paired qY4 c rest) _ ?_ ?_ _ _ #[rfl,rfl,ks,q]
    · rintro v rest r d ⟨f,rfl,c,u⟩
      cases u with
      | cons p q2=>
        show(Ê (y m _ _ _ p Í ?_),qGe,ύ #[rfl,rfl,_,q2])
    · rintro⟨D,C⟩ d ⟨f,rfl,_⟩
      show(vL f,Nn h)
#print"-"
abbrev Qi(prog:Program)(w:World):HeapKind prog w Tr where
 is:=λh k a=>IsT h 8 k ħ
 hash:=hN w 8
 draws:=dN 8
 room:=λA=>A.units+8<cLine
 inj:=λc b=>Qfx _ _ _ c b
 keeps:=λx e hd d=>QeE e hd d _ _ x
 pyHash:=λhu hk h=>Qnp 8 _ hu _ _ _ _ hk h
 eqBool:=λhu c b h=>QuG 8 _ hu _ _ _ _ c b _ _ _ _ h
 quiet:=λhk h=>QjZ 8 8 _ _ _ hk ĕ h
abbrev kV:Key->V
 |ß i=>Â i
 |ô x=>Ü x
inductive HO where
 /-- a list -/
 |lst (xs:Ø)
 /-- a tuple (never changes) -/
 |tup (xs:Ø)
 /-- a dict whose keys are ints and texts;one whose keys are tuples of ints and texts (the empty one is both) -/
 |dK (kvs:ą V)|dT (kvs:Ő)
 /-- a set of ints: its members,its size -/
 |set (S:Int->Bool) (n:Nat)
 /-- an instance of the class at C,its dict at dx,its attributes -/
 |ins (C dx:Addr) (fs:ž V)
 /-- the dict of the instance at x -/
 |own (x:Addr)
 /-- the dict of an exception -/
 |xd (fs:ž V)
 /-- a bound method,f of x -/
 |met (f x:Addr)
 /-- a range object lo,lo+1,.. below hi -/
 |rng (lo hi:Int)
 /-- a thing that is known to the object (the script;a dict while a loop walks it): read,never written while it is so -/
 |frz (o:Obj) (u:HO)
 /-- a Qgi object's table -/
 |tbl (ps:Ń)
 /-- any other thing,by what is true of its one object (a def of one's own: SetO a S n:=HO.ext λh=>..) -/
 |ext (φ:cy)
noncomputable abbrev Hp:=Addr->zfa
abbrev upd(H:Hp)(a:Addr)(o:HO):Hp:=λb=>if b=a then sO o else H b
def Js{H:Hp}{a:Addr}{o:HO}:upd H a o a=sO o:=by unfold upd;rw[Ĥ]
def Qz{H:Hp}{a b:Addr}{o:HO}(h:b≠a):upd H a o b=H b:=by unfold upd;rw[Õ h]
def JY{H:Hp}{a b:Addr}{o:HO}(h:sR)(h':ϰ):a≠b:=by
 intro e;subst e;show ð h h'
section
variable(P:Program)(w:World)
abbrev ObjOk(H:Hp)(h:Heap)(a:Addr):HO->Prop
 |.lst xs=>Bx/\∃(its:Ï) (n:Nat),uo/\Ų a=pQ
 |.tup xs=>Bx/\∃its:Ï,uo/\IsTup h a its.toArray
 |.dK b=>zy5
 | .dT b=>bL/\fq/\∃xs:yI,
   Paired (λ(p:Tr×Addr×V) (q:Tr×zXa)=>qpg) b xs /\
   ∃o es ep,TB/\o.ExactDict/\bK/\es.toList=xs.map (entryOfKey (Qi P w))/\(xs.map (·.1)).Nodup/\ep=es.size
 |.set S n=>h.SetOf (intKind P w) a S n
 | .ins C d fs=>H d=xw9/\xc7/\d≠a/\Ų a=sO (DO C d) /\
   ∃c,h.Ns1 d c/\(∀f,zM5 c)/\Ya5 c (fs.map (·.1))
 |.own _=>∃o,TB
 |.xd fs=>∃c,h.Ns1 a c/\∀f,zM5 c
 |.rng lo hi=>∃t u v,Ų a=sO { cls:=fw,data:=zy3 }
 |.frz o u=>TB/\ObjOk H h a u
 |.tbl ps=>Ų a=sO { cls:=.none,data:=.fields ps }
 |.met f x=>Ų a=sO (Oz TF MK)
 |.ext e=>e h/\(∃o,TB)/\∀h1 h2:Heap,e h1->(∀o,Bl h1 a=sO o->Bl h2 a=sO o)->e h2
abbrev HOk(H:Hp)(h:Heap):Prop:=∀a o,sR->c8 o
#print"-"
section
variable{P:Program}{w:World}{H H':Hp}{h h':Heap}{a:Addr}{o:HO}
def ObjOk.lt(x:c8 o):zT6:=by
 cases o with
 |lst c=>let#[_,_,_,_,e]:=x;show NL e
 |tup c=>let#[_,_,_,p]:=x;show p.lt
 |dK b=>show qwh
 |dT b=>show qwh
 |set S n=>let#[o,_,_,_,e,_]:=x;show NL e
 |ins C j fs=>let#[_,_,_,e,_]:=x;show NL e
 |own y=>let#[_,e]:=x;show NL e
 |xd fs=>let#[_,#[_,_,_,e,_],_]:=x;show NL e
 |rng lo i=>let#[_,_,_,e]:=x;show NL e
 |frz ob u=>let#[e,_]:=x;show NL e
 |tbl g=>show qj7
 |met f y=>show qj7
 |ext d=>let#[_,#[_,e],_]:=x;show NL e
def Paired.mapP{g e:Type}{F G:g->e->Prop}{d:ä g}{c:ä e}(p:uX F d c)(f:qOj):uX G d c:=
 jz0
def ObjOk.stay(x:ObjOk P w H h a o)(k:∀b u,(b=a\/H b=sO jIi)->h.get? b=sO u->qm=sO u)
  (E:∀b,zp6 jIi) (J:zm4):ObjOk P w H' h' a o:=by
 induction o with
 |lst xs=>let#[z,j,n,r,e]:=x;show#[z,j,n,r,Bm]
 |tup xs=>let#[z,j,r,ob,e,c]:=x;show#[z,j,r,ob,Bm,c]
 |dK s=>let#[z,y,B,r,ob,g,i,e,c]:=x;show#[z,y,B,r,ob,g,i,Bm,c]
 |dT s=>
  let#[z,y,xs,r,ob,g,i,e,c]:=x;show#[z,y,xs,r,ob,g,i,Bm,c]
 |set S n=>let#[ob,g,i,t,e,c]:=x;show#[ob,g,i,t,Bm,c]
 |ins C M fs=>
  let#[d,z,ne,e,m,#[l,g,i,F,c],r]:=x;show#[E _ d,z,ne,Bm,m,#[l,g,i,k _ _ (.inr d) F,c],r]
 |own y=>let#[ob,e]:=x;show#[ob,Bm]
 |xd fs=>let#[m,#[l,g,i,e,c],r]:=x;show#[m,#[l,g,i,Bm,c],r]
 |rng lo L=>let#[t,u,v,e]:=x;show#[t,u,v,Bm]
 |frz ob u D=>let#[e,q]:=x;show#[Bm,D q]
 |tbl A=>
  let e:h.get? a=jwf:=x;apply h'.get? a=jwf;show jz6
 |met f y=>
  let e:h.get? a=sO jw0:=x;apply h'.get? a=sO jw0;show jz6
 |ext I=>let#[p,#[o,e],st]:=x;show#[st _ _ p λo q=>k _ _ jt0 q,#[o,Bm],st]
def HOk.lt(x:CU)(e:sR):zT6:=(x a o e).lt
def HOk.fresh(x:CU)(e:zRh):H a=nO:=by
 cases q:H a with
 |none=>rfl
 |some u=>show č (Ng (x.lt q) e) cM
def HOk.kept(x:CU)(k:oP):jl9 H:=λa o e=>
 (x a o e).stay (λb u _ q=>k b u q) zXb TK
def HOk.laid(x:CU)(k:oP)(g:zRh)(new:jp4 a o):jl9 (Ĉ a o):=λb u e=>by
 let d:=x.fresh g
 show zDe f a e
 ·rw[Qz f]at e;show(x b u e).stay (λc v _ q=>k c v q) (λc q=>jDb) λc i q=>jDb
#print"-"
abbrev Rd(H:Hp)(a:Addr)(u:HO):Prop:=H a=sO u\/∃o,H a=sO jwg
def Rd.ok{P:Program}{w:World}{H:Hp}{h:Heap}{a:Addr}{u:HO}(r:pC u)(x:CU):c8 u:=by
 rcases r with r|⟨o,r⟩
 ·show x a u r
 ·let#[_,q]:=x a _ r;show q
abbrev Mut:zfa->Prop
 |Mv=>True
 |some (.dK _)=>True
 |some (.dT _)=>True
 |some (.set _ _)=>True
 |some (.ins _ _ _)=>True
 |some (.ext _)=>True
 |_=>False
section
variable{P:Program}{w:World}{H:Hp}{h h':Heap}{x e:Addr}{o':HO}
def HOk.write(ok:CU)(i:jd6)(o:zH8)(k:jz7)(m:zs3)
  (new:jp4 x o'):jl9 (Ĉ x o'):=λb u q=>by
 let d:∀c y,H c=sO (.own y)->c≠x:=λc y r z=>zM6 r i
 let f:∀c g,H c=sO (ġ g)->c≠x:=λc g r z=>zM6 r i
 show zDe l x q
 ·rw[Qz l]at q
  show Ě a b e
  ·let n:H b=sO eY:=by
    show jZ o
    ·show č (Ę a z) l
    ·show ώ a z
   show(ð q n,ĉ v p m,#[v,uq a p])
  ·refine(ok b u q).stay (zWg j r) (λc r=>j8 (d c b r) r) λc g r=>j8 (f c g r) r
   rcases j with rfl|j
   ·show a
   ·rintro rfl
    show jZ o
    ·show d c b j z
    ·show(ð j z,l rfl)
#print"-"
structure Un(fs ex:List Addr)(H H':Hp)(h h':Heap):Prop where
 keep:∀b o,oO->Po->b∉fs->ze->qm=sO o
 slot:∀b o,oO->Po->b∈fs->ze->∃sl,qm=sO { o with slots:=sl }
 free:∀b o,oO->Po->ze->H' b=nO
 there:∀b o,oO->ze->∃o',qm=sO o'
 tups:zm4
 frzs:jnh
 tbls:jt2
section
variable{fs fs' ex ex':ς}{H H1 H2:Hp}{h h1 h2 h':Heap}{a x e:Addr}{o:HO}
def Un.any(u:Un fs ex H H1 h h1){b:Addr}{ob:Obj}(q:Ų b=sO ob)(n:ϰ)(c:ze):∃f,Bl h1 b=sO { ob with slots:=f }:=by
 by_cases d:b∈fs
 ·show u.slot b ob q n d c
 show Ħ #[ob.slots,u.keep b ob q n d c]
def Un.kept(k:oP):Un fs ex H H h h':=
 #[λb ob q _ _ _=>jg3,λb ob q _ _ _=>#[ob.slots,jg3],λ_ _ _ n _=>n,λb ob q _=>#[ob,jg3],AD q,xp1,λ_ c q=>#[#[],Sr q]]
def Un.refl:Un fs ex H H h h:=Un.kept TK
def Un.laid(k:oP)(f:zRh)(c:H a=nO):jIj a where
 keep:=λb u q _ _ _=>k b u q
 slot:=λb u q _ _ _=>#[u.slots,k b u q]
 free:=λb u q n _=>j8 (NK (Ng (NL q) f)) n
 there:=λb u q _=>#[u,k b u q]
 tups:=λb d q=>j8 jd5 q
 frzs:=λb u d q=>j8 jd5 q
 tbls:=λb g q=>#[#[],by rw[Qz jd5,q];simp]
def Un.write(d:jd6)(m:zH8)(k:jz7)(g:zs3):jIj x:=by
 let i:∀b,ϰ->b≠x:=λb n z=>zM6 n d
 let j:∀b,ϰ->b≠e:=λb n z=>by
  subst z
  rcases m with r|r
  ·show i b n r
  ·show ð n r
 let f:∀b u,zh8->¬Mut (sO u)->b≠x:=λb u q nm z=>by subst z;rw[q]at d;show nm d
 refine#[λb u q n _ _=>qKa,λb u q n _ _=>#[u.slots,qKa],λb u q n _=>j8 (i b n) n,λb u q _=>?_,
  λb l q=>j8 zNg q,λb u l q=>j8 zNg q,λb p q=>#[#[],by rw[Qz zNg,q];simp]]
 show Ě c b e
 ·show jVc c g
 show Ħ #[u,k b u c q]
#print"-"
abbrev trk(h:Heap)(H:Hp):ς:=(List.range h.objs.size).filter λa=>(H a).isSome
abbrev Qhm(h:Heap)(H:Hp):Heap:=PySem.W.hideAll h jad
def Qdb(h:Heap)(H:Hp):(Qhm h H).objs.size=h.objs.size:=PySem.W.hideAll_size _ _
def Qhj{h:Heap}{H:Hp}{b:Addr}{o:Obj}(e:yf)(n:ϰ):zP3=sO o:=
 PySem.W.hideAll_get _ e λa=>by
  let q:(H b).isSome=true:=(EM.mp a).2;show iV n q
def Qnb{h:Heap}{H:Hp}{b:Addr}{o:Obj}(e:zP3=sO o):yf/\ϰ:=by
 let a:yf:=PySem.W.of_hideAll jad e;show Hz a;cases q:H b with
 |none=>rfl
 |some x=>
  let c:b∈trk h H:=EM.mpr #[Ep.mpr (NL a),AJ q];let z:zP3=nO:=PySem.W.hideAll_none jad c;show ð z e
structure Mod(K:Nk)(mg:Ē)(base:Heap):Prop where
 kin:K.In base
 glob:base.Ns mainGlobals mg
 blt:∃mb,base.Ns builtinsNs mb/\∀x:Str,j9->mb x=zU
 nolimit:base.NoLimit
structure Cx where
 prog:Program
 w:World
 K:Nk
 mg:Ē
 base:Heap
 A:Around
 N:Á
 s₀:Shared
 H₀:Hp
 env:Env
 outer:Ϟ
 stack:Ϟ
 ex:ς
 fn:Str->Bool
 calm:Bool
 pn:Ý
 xe:Ô
abbrev frs(l:Ϟ):ς:=l.filterMap (·.frame)
noncomputable abbrev Cx.fs(X:Cx):ς:=frs X.outer
abbrev Vis(sc:Scope)(x:Str):Prop:=PU=CS\/PU=Ae\/PU=jX
abbrev Loc(sc:Scope)(x:Str):Prop:=zsf
abbrev QvZ(env:Env)(h:Heap)(m:Ē)(x:Str)(u:Value):Prop:=
 (sJ x=CS/\m x=sO u)\/((sJ x=Ae\/sJ x=jX)/\∃c,env.cells.lookup x=sO c/\h.IsCell c (sO u))
structure Cx.Ok(X:Cx):Prop where
 mod:qP1
 kind:X.env.scope.kind=.function
 glob:X.env.globals=mainGlobals
 blt:X.env.builtins=builtinsNs
 above:X.s₀.heap.objs.size<=X.env.locals
 inj:∀x y c,jJ->tR y=sO c->x=y
 has:∀x,jH5->∃c,jJ
 cab:∀x c,kE->jJ->X.s₀.heap.objs.size<=c
 hd:ı->X.A.handled=nO
 frames:X.A.frames=sO X.stack
 stk:X.stack=X.outer\/(X.stack=X.env::X.outer/\X.env.frame=sO X.env.locals)
 exf:∀b∈X.ex,zP4/\∀x c,jJ->c≠b
 bs:∀b o,fT->zq3/\xwa
 bsz:X.base.objs.size<=X.s₀.heap.objs.size
 noex:∀b o,fT->b∉X.ex
 exfs:∀b∈X.ex,jg4
 funs:X.s₀.heap.FunFrames X.base X.outer
 frf:∀b∈X.fs,xwa
structure Inv(X:Cx)(pins:Ý)(σ:zch V)(H:Hp)(s:Shared):Prop where
 ok:X.Ok
 os:s.os=X.s₀.os
 bare:dU s
 base:Un X.fs X.ex X.H₀ H X.s₀.heap s.heap
 loc:∃m,jAh/\∀(i:Nat) (x:Str) (v:V),Ϙ->jO2->k6->∃u,ó v/\QvZ X.env s.heap m x u
 cell:∀x c,jJ->∃v,jG6
 free:H X.env.locals=nO
 freeC:∀x c,jJ->H c=nO
 pin:∀p∈jae,jY5
 hok:HOk X.prog X.w H s.heap
 len:σ.length=X.N.length
section
variable{X:Cx}{pins:Ý}{σ:zch V}{H H':Hp}{s:Shared}{h':Heap}
def Cx.Ok.nofr(ok:X.Ok){b:Addr}{o:Obj}(e:fT):jg4:=λa=>by
 let:=(ok.funs.mem a).1;show Cv e
def Inv.bs(I:á):∀b o,fT->Ϲ/\ϰ:=λb o e=>
 #[I.base.keep b o qVf qVg (I.ok.nofr e) qP2,I.base.free b o qVf qVg qP2]
def Inv.bk(I:á):∀b o,fT->Ϲ:=λb o e=>(I.bs b o e).1
def Inv.mod(I:á):qP1:=I.ok.mod
def Inv.kIn(I:á):X.K.In s.heap:=I.ok.mod.kin.keeps I.bk
def Inv.lt(I:á):X.env.locals<s.heap.objs.size:=let#[_,a,_]:=I.loc;a.lt
def Inv.sz(I:á):X.s₀.heap.objs.size<=s.heap.objs.size:=Nh I.ok.above (Nt I.lt)
def Inv.nofs(I:á){a:Addr}(h:qP3):a∉X.fs:=λc=>by
 let#[_,o,b,_]:=I.ok.funs.mem c;show č (Ng (NL b) (Nh I.sz h)) cM
def Inv.cne(I:á):∀x c,jJ->c≠X.env.locals:=λx c e z=>by
 let#[v,o,d,hd]:=iL I e;let#[m,#[f,g,h,a,b,_],_]:=I.loc;rw[z,a]at d;cases d;rw[b]at hd;cases hd
def Inv.funs(I:á):s.heap.FunFrames X.base X.outer:=by
 let all:∀(l:Ϟ),(∀b∈frs l,b∈X.fs)->X.s₀.heap.FunFrames X.base l->s.heap.FunFrames X.base l:=by
  intro l
  induction l with
  |nil=>intro _ _;trivial
  |cons m r f=>
   intro d j;let#[hk,#[L,o,a,i,h,hd],g]:=j;let hL:L∈X.fs:=d L (by unfold frs;rw[L8,a];show NF);let#[n,e]:=I.base.slot L o h (I.ok.frf L hL) hL λz=>I.ok.exfs L z hL;show#[hk,#[L,_,a,i,e,hd],f (λb c=>d b (by unfold frs;rw[L8,a];show C4 c)) g]
 show all X.outer (λ_ c=>c) I.ok.funs
def Inv.stack(I:á):s.heap.FunFrames X.base X.stack:=by
 rcases I.ok.stk with e|⟨e,b⟩
 ·rw[e];show I.funs
 ·rw[e];let#[m,a,_]:=I.loc;refine .cons (by rw[I.ok.kind];decide) b a ?_ I.funs;show Heap.get?_none_of_le (Nh I.ok.bsz I.ok.above)
def Inv.stkSub(I:á):∀b∈zXd,b∈X.env.locals::X.fs:=λb a=>by
 rcases I.ok.stk with e|⟨e,c⟩
 ·rw[e]at a;show C4 a
 ·rw[e]at a;unfold frs at a;rw[L8,c]at a;show a
def Inv.stkFree(I:á):∀b∈zXd,ϰ:=λb a=>by
 rcases NJ.mp (I.stkSub b a)with e|a
 ·rw[e];show I.free
 ·let#[_,o,c,_]:=I.ok.funs.mem a;show I.base.free b o c (I.ok.frf b a) λz=>I.ok.exfs b z a
def Inv.step{g':Array GenState}{t':Nat}{d':Drawn}{ch:List Addr}(I:Inv X pins σ H s)
  (g:∀b∈ch,(b∈X.ex\/X.s₀.heap.objs.size<=b)/\oF/\(∀x c,jA5->c≠b)/\∀p∈X.pn++pins,p.1≠b)
  (keep:∀b o,oF->b∉X.fs->qx->oC->Po->qm=sO o)
  (slot:∀b o,oF->b∈X.fs->qx->oC->Po->∃M,qm=sO { o with slots:=M }) (free:∀b o,qx->oC->Po->H' b=nO)
  (there:∀b o,qx->oC->∃D,qm=sO D)
  (B:zm4) (F:jnh) (C:jt2)
  (ns:∀m,jAh->h'.Ns X.env.locals m) (N:HOk X.prog X.w H' h') (hg:AllBare g') :
  Inv X pins σ H' { s with heap:=h',gens:=g',drawn:=d',toks:=t' }:=by
 let E:∀b o,zq3->oF:=λb o e=>NK (Ng (NL e) I.ok.above)
 let j:∀b o,zq3->b∉X.ex->qx:=λb o e a y=>by
  rcases(g b y).1 with z|z
  ·show a z
  ·show absurd (Ng (NL e) z) (El _)
 let h:∀x c,jA5->∀v,jG6->h'.IsCell c v:=λx c e v #[o,A,hd]=>by
  let f:c∉ch:=λz=>jBa
  by_cases S:c∈X.fs
  ·let#[M,q]:=slot c o jJ0 S f A zra;show#[_,q,hd]
  ·show#[o,keep c o jJ0 S f A zra,hd]
 refine#[I.ok,I.os,hg,#[jG7,jG7,λb o e n a=>?_,λb o e a=>?_,λb xs e=>B b xs (I.base.tups b xs e),λb o xs e=>F b o xs (I.base.frzs b o xs e),λb ps e=>?_],?_,jp5,?_,jp5,λp Q=>?_,N,I.len]
 ·show keep b o (E b o e) y (j b o e a) (I.base.keep b o e n y a) zq1
 ·let#[M,t]:=I.base.slot b o e n y a;let#[L,J]:=slot b _ (E b o e) y (j b o e a) t zq1;show#[L,J]
 ·show(jAi,free b D (j b o e a) t zq1)
 ·show(jAi,there b D (j b o e a) t)
 ·let#[Y,t]:=I.base.tbls b ps e;let#[U,J]:=C b _ t;show#[Y++U,by rw[J,Array.append_assoc]]
 ·let#[m,Z,hl]:=I.loc;refine#[m,ns m Z,λi x v t J e3=>?_];let#[u,r,l]:=hl i x v t J e3;refine#[u,r,?_]
  rcases l with l|⟨k,c,e,z⟩
  ·show .inl l
  ·show .inr #[k,c,e,h x c e _ z]
 ·let#[v,z]:=jO3;show#[v,h x c e v z]
 ·let#[m,#[o,_,_,A,_],_]:=I.loc;show free _ o (λz=>(g _ z).2.1 rfl) A I.free
 ·let#[v,o,A,hd]:=jO3;show free c o (λz=>jBa) A zra
 ·let#[e,n,ne,P,d]:=zg Q;let f:p.1∉ch:=λz=>(g p.1 z).2.2.2 p Q rfl;show#[keep p.1 p.2 ne P f e n,free p.1 p.2 f e n,ne,P,d]
def Inv.un{t':Nat}(I:á)(u:Un X.fs [] H H' s.heap h')(c:zUc H'):TM H':=by
 let#[m,#[o,v,x,h,r],_]:=jg5;let#[l,hL]:=u.any h I.free Å
 show I.step (g':=s.gens) (d':=s.drawn) (ch:=[]) (λ_ z=>jY z) (λb o _ d _ e n=>u.keep b o e n d Å) (λb o _ d _ e n=>u.slot b o e n d Å) (λb o _ e n=>u.free b o e n Å) (λb o _ e=>u.there b o e Å) u.tups u.frzs u.tbls (λq j=>by
  show θ p f g a i j;rw[h]at a;show ï a #[_,f,g,hL,i]) c I.bare
def Inv.call{g':zRi}{t':Nat}{d':Drawn}{ch:ς}(I:á)(u:Un xc8 ch H H' s.heap h')(g:zUc H')(t:AllBare g')
  (f:∀b∈ch,jRh) :
  Inv X pins σ H' { s with heap:=h',gens:=g',drawn:=d',toks:=t' }:=by
 let#[m,#[o,C,D,j,r],_]:=jg5;let#[y,hL]:=u.any j I.free λz=>xc9
 show I.step (ch:=ch) f (λb o hL v a e n=>u.keep b o e n (λz=>(NJ.mp (I.stkSub b z)).elim hL v) a) (λb o _ _ a e n=>u.any e n a) (λb o a e n=>u.free b o e n a) (λb o a e=>u.there b o e a) u.tups u.frzs u.tbls (λB q=>by
  show θ A h i d l q;rw[j]at d;show ï d #[_,h,i,hL,l]) g t
def Inv.turned{t':Nat}{it:Addr}(I:á)(k:∀b o,b≠it->TC)(g:H it=nO)(hL:it≠X.env.locals)
  (h1:it∈X.ex\/X.s₀.heap.objs.size<=it) (h2:∀x c,jJ->c≠it) (j:∀p∈jae,p.1≠it):TM H:=by
 let d:∀b u,zh8->b≠it:=λb u e z=>zOe e
 refine I.step (g':=s.gens) (d':=s.drawn) (ch:=[it]) (AQ b i) (λb o _ _ a e _=>zC5) (λb o _ _ a e _=>#[o.slots,zC5]) (λ_ _ _ _ n=>n)
  (λb o a e=>#[o,zC5]) (sV e) (zZh e) (λb w e=>#[#[],Sr e]) (AQ m h) jO4 I.bare
 ·show P7 i
  show Ϗ e #[h1,hL,h2,j]
 ·show(θ o l t f r h,#[o,l,t,k _ o (N8 hL) f,r])
 ·refine(I.hok b u e).stay (zWg a q) zXb TK
  show jZ a
  ·rw[z];show d b u e
  ·show jj0
def Inv.tok(I:á)(t:Nat):Inv X pins σ H { s with toks:=t }:=I.un (h':=s.heap) (t':=t) Un.refl I.hok
def Inv.kept{t':Nat}(I:á)(k:∀b u,zrg):TM H:=I.un (Un.kept k) (I.hok.kept k)
def Inv.laid{a:Addr}{o:HO}{t':Nat}(I:á)(k:∀b u,zrg)(c:qP3)(new:zci (Ĉ a o) a o) :
  TM (Ĉ a o):=I.un (Un.laid k c (jj6 I c)) (I.hok.laid k c new)
def Inv.write{x e:Addr}{o:HO}{t':Nat}(I:á)(c:jd6)(d:zH8)(k:∀b u,b≠e->zrg)(a:zs3)
  (new:zci (Ĉ x o) x o):TM (Ĉ x o):=I.un (Un.write c d k a) (I.hok.write c d k a new)
def Inv.pins_of{a:Ý}(I:á)(h:∀p∈a,jY5):Ĩ a:=
 #[I.ok,I.os,I.bare,I.base,I.loc,I.cell,I.free,I.freeC,λp b=>(NI.mp b).elim (λz=>zg pI) (h p),I.hok,I.len]
def Qa1{N:Á}(hN:N.Nodup){i j:Nat}{x:Str}(a:N[i]?=sO x)(b:N[j]?=sO x):i=j:=by
 show(zld f d a,zld e c b,(Il hN).mp (Hl d c))
def Gw{M:Model}{A:Around}{E:Ô}{i:Nat}{x:Str}{v:V}{u:Value}{Q:qp}(I:á)(hN:X.N.Nodup)(hi:Ϙ)(B:j5)(r:ó v)
  (h:∀s',qqb s'->(∃a,Heap.SameBut a s.heap s'.heap/\(a=X.env.locals\/tR x=sO a))->Q () s') (hf:AY:=by show yv):qg5:=by
 let#[m,hn,hl]:=jg5;let Y:(X.env.scope.kind==.class ||(X.env.scope.kind==.module&&X.env.locals != X.env.globals))=false:=by rw[I.ok.kind];rfl
 let F:i<σ.length:=by rw[I.len];show(Nd.mp hi).1
 let cne:=I.cne
 let g:∀{a:Addr} {h':Heap},(∃o,gw=sO o/\H a=nO)->TX a->zUc H:=λ{a h'} ha f b ob e=>by
  let#[_,_,C]:=ha;refine(I.hok b ob e).stay (λc w' t q=>(f.2 c ?_).trans q) zXb TK
  rintro rfl
  rcases t with rfl|t
  ·show ð C e
  ·show ð C t
 rcases B with hk|hk
 ·refine wpAny_storeName_local hk hn (λh' ae f=>?_) Y;let#[oL,_,_,ab,_]:=id hn;refine h _ #[I.ok,I.os,I.bare,jW9,#[_,ae,AS j y v' l D e3],Ú y c e,I.free,I.freeC,zdc,g #[oL,ab,I.free] f,qMd] #[_,f,iw]
  ·show ug f b ql4 qA0
  ·let#[sl,l]:=qGf;show#[sl,jO5]
  ·show(qCj,#[o',jO5])
  ·show Ě J j i
   ·show(qBc,ï D #[u,r,ß #[hk,Ç]])
   ·show juh
    rcases q with⟨k,e⟩|⟨k,c,e,z⟩
    ·show Bo (HJ k);let:y≠x:=λe=>J (Qa1 hN l (e▸hi));simp[this,e]
    ·show ÿ #[k,c,e,qu0]
  ·let#[w',z]:=I.cell y c e;show#[w',qu0]
  ·show(qI8,#[(f.2 p.1 ne).trans e,n,ne,nf,d])
 ·let L:kE:=by
   rcases hf with z|z
   ·show z
   ·rw[z]at hk;cases hk
  let#[c,t]:=I.ok.has x (.inl hk);let#[w',z]:=iL I t;refine wpAny_storeName_cell I.ok.kind hk t z (λh' aa f=>?_);let#[oc,U,S]:=id z;refine h { s with heap:=h' } #[I.ok,I.os,I.bare,jW9,#[m,hn.sameBut f (N8 (cne x c t)),AS j y v' l D e3],Ú y c' e,I.free,I.freeC,zdc,g #[oc,U,ji7 t] f,qMd] #[c,f,ô t]
  ·show ug f b ql5 qA0
  ·let#[sl,l]:=qGf;show#[sl,jO6]
  ·show(qCj,#[o',jO6])
  ·show Ě J j i
   ·show(qBc,ï D #[u,r,ô #[.inl hk,c,t,aa]])
   ·show juh
    rcases q with q|⟨k,c',e,z'⟩
    ·show ß q
    ·show AT #[k,c',e,z'.sameBut f ?_]
     rintro rfl
     show J (Qa1 hN l (I.ok.inj _ _ _ e t▸hi))
  ·show Ě Z c' c
   ·show Ϗ Z #[_,aa]
   ·let#[w2,z2]:=I.cell y c' e;show#[w2,z2.sameBut f Z]
  ·show qI8;refine#[(f.2 p.1 ?_).trans e,n,ne,nf,d];intro q;rw[q,U]at e;let q':oc=p.2:=NZ e;show d w' (S5 q' S)
def UC{M:Model}{A:Around}{E:Ô}{i:Nat}{x:Str}{v:V}{u:Value}{Q:qp}(I:á)(hN:X.N.Nodup)(hi:Ϙ)(b:j5)(r:ó v)
  (h:∀a,qqb a->Q () a) (c:AY:=by show yv):qg5:=
 Gw I hN hi b r (λa d _=>h a d) c
def Inv.call'{a:Shared}{ch:ς}(I:á)(l:a.os=s.os)(u:Un xc8 ch H H' s.heap a.heap)(d:HOk X.prog X.w H' a.heap)(m:dU a)
  (f:∀b∈ch,jRh):CQ H' a:=by
 show θ h' h i g j a;let e:j=s.os:=l;subst e;show I.call (g':=h) (t':=g) (d':=i) u d m f
#print"-"
noncomputable abbrev XK:=Value->BG->ϒ
noncomputable abbrev St:=zch V
noncomputable abbrev VK:=V->ϒ
noncomputable abbrev TE:=St->TN
noncomputable abbrev TT:=St->qnf
noncomputable abbrev TA:=St->Hp->(Ø->ϒ)->Prop
structure Ends where
 nx:Cb
 rt:VK
 bk:Cb:=zad
 ct:Cb:=zad
noncomputable abbrev TS:=Ends->Cb
abbrev EP(X:Cx)(a:Ý)(σ:St)(Q:VK)(u:Value)(c:Shared):Prop:=∃v b,ţ a σ b c/\ó v/\Q v b
abbrev TP(X:Cx)(a:Ý)(σ:St)(Q:qq)(b:Bool)(d:Shared):Prop:=∃c,jp6/\Q b c
abbrev AP(X:Cx)(a:Ý)(σ:St)(Q:Ø->ϒ)(us:Ï)(d:Shared):Prop:=∃b c,jp6/\ph b/\Q b c
abbrev SP(X:Cx)(b:Ý)(D:Ends)(f:Flow)(d:Shared):Prop:=
 match f with
 |.next=>∃a c,ţ b a c d/\lS c
 |.brk=>∃a c,ţ b a c d/\D.bk a c
 |.cont=>∃a c,ţ b a c d/\D.ct a c
 |.ret u=>∃v a c,ţ b a c d/\ó v/\D.rt v c
abbrev PE(X:Cx)(e:Expr)(t:TE):Prop:=
 ∀(a:Ý) (s:Shared) (b:St) (H:Hp) (Q:VK),Η->l6->ĩ (u7 e) uh
abbrev PT(X:Cx)(e:Expr)(t:TT):Prop:=
 ∀(a:Ý) (s:Shared) (b:St) (H:Hp) (Q:qq),Η->l6->ĩ (isTrue e X.env (u7 e)) zT7
abbrev PW(X:Cx)(e:Expr)(t:TT):Prop:=
 ∀(whole:Sem Value) (a:Ý) (s:Shared) (b:St) (H:Hp) (Q:qq),Η->l6->ĩ (isTrue e X.env whole) zT7
def PW.pt{X:Cx}{e:Expr}{t:TT}(h:PW X e t):uZ e t:=h _
abbrev PA(X:Cx)(es:ā)(t:TA):Prop:=
 ∀(pos:Pos) (a:Ý) (s:Shared) (b:St) (H:Hp) (Q:Ø->ϒ),Η->l6->ĩ (spliced (backTo pos vf)) (AP X a b Q)
abbrev PS(X:Cx)(st:Stmt)(t:TS):Prop:=
 ∀(a:Ý) (s:Shared) (b:St) (H:Hp) (D:Ends),Η->t D b H->ĩ (exec st X.env) xp6
abbrev PSs(X:Cx)(st:AH)(t:TS):Prop:=
 ∀(a:Ý) (s:Shared) (b:St) (H:Hp) (D:Ends),Η->t D b H->ĩ (execs st X.env) xp6
def thn{b:Type}{t:Sem b}{Q Q':b->Ϣ}{M:Model}{A:Around}{E:Ô}{s:Shared}(h:cG M t)(c:∀a s,Q a s->Q' a s):wpAny M A t Q' E s:=Eb h c qI
section
variable{X:Cx}
def bin{a b:Expr}{l tb:TE}(t:Ĺ a l)(r:Hd){c:Ý}{s:Shared}{σ:St}{H:Hp}{R:V->V->ϒ}(I:Ĩ c)(h:l σ H qu1)
  {j:Type} {Q:j->Ϣ} {f:Value->Value->Sem j}
  (q:∀v u g x y H2,ţ c σ H2 g->jk->ó y->R x y H2->jp7 g) :
  jn0 e d:=by
 show(ϸ (yH t c σ) (Ú v m i),Ŷ x o p i,ϸ (r c m σ H1 _ I1 p) (Ú u g i),Tz y n i,q v u g x y H2 I2 o n q2)
abbrev QwH(i:Nat):TE:=λa H Q=>∃v,a[i]?=sO CY/\Q v H
abbrev tC(v:V):TE:=λ_ H Q=>Q v H
def QoM{i:Nat}{x:Str}{pos:Pos}(hN:Ϙ)(j:k6)(hd:ŭ:=by decide)(d:qg6:=by decide):Ĺ yV (QwH i):=by
 show(Č b g Q,xwb e n p);let#[u,r,l]:=p i x v hN e j;let fin:pr b g u:=xcb
 rcases l with⟨hk,o⟩|⟨hk,c,f,a⟩
 ·show wpAny_Name (YaH I.ok.kind hk n o fin) hd
 ·rcases hk with hk|hk
  ·show wpAny_Name (wpAny_loadName_cell I.ok.kind hk f a fin) hd
  ·show wpAny_Name (wpAny_loadName_free I.ok.kind hk f a fin d) hd
def Qqp{i j pos}:Ĺ (cm Į) (tC Į):=λ_ _ _ H _ I h=>wpAny_Constant_int #[Â i,H,ų,û,h]
def QsF{b j pos}:Ĺ (cm wY) (tC jp):=λ_ _ _ H _ I h=>Constant_bool #[.bl b,H,I,rfl,h]
def QpE{j pos}:Ĺ qD0 (tC .non):=λ_ _ _ H _ I h=>Constant_none #[.non,H,I,rfl,h]
def Qo7{x j pos}:Ĺ (cm Φ) (tC Φ):=λ_ _ _ H _ I h=>Calls.Constant_str #[Ü x,H,ų,û,h]
abbrev Gl(X:Cx)(x:Str):Prop:=zG0=fA
def QaQ{E:Ô}{a:Ý}{s:Shared}{σ:St}{H:Hp}{x:Str}{u:Value}{pos:Pos}{Q:Ô}(I:Ĩ a)(c:΢)(b:zke=sO u)(h:Q u s)
  (hd:ŭ:=by decide):jDc:=
 Oq I.ok.kind c (Calls.loadGlobal_global qk1 b h) hd
def Xn{E:Ô}{a:Ý}{s:Shared}{σ:St}{H:Hp}{x:Str}{u:Value}{pos:Pos}{Q:Ô}(I:Ĩ a)(e:΢)(d:T8)(b:zn5)(h:Q u s)
  (c:j9:=by decide) (hd:ŭ:=by decide):jDc:=by
 let#[i,g,f]:=I.mod.blt;show Oq I.ok.kind e (Calls.loadGlobal_builtin qk1 d (by rw[I.ok.blt];show g.keeps I.bk) ((f x c).trans b) h) hd
def Qld{x:Str}{v:V}{u:Value}{pos:Pos}(d:΢)(c:T8)(a:zn5)(r:ó v)(b:j9:=by decide)(hd:ŭ:=by decide):Ĺ yV (tC v):=
 λ_ _ _ H _ I h=>Xn I d c a xcb b hd
variable{a b:Expr}{ta tb:TE}{pos:Pos}
variable{tA tB':TT}{rest:ā}
abbrev QtL(t u:TT):TT:=λd H Q=>t d H λc H1=>if BY then u d H1 Q else Q false H1
abbrev tOr(t u:TT):TT:=λd H Q=>t d H λc H1=>if BY then Q true H1 else u d H1 Q
abbrev QwM(t:TT):TT:=λd H Q=>t d H λc H1=>Q (!c) H1
def QlK(g:sy):PW X jO7 tA:=by
 intro i d s f H Q I h;refine isTrue_and jm0;cases c with
 |true=>show isTrue_and_nil e
 |false=>show e
def QoZ(g:sy):PW X jO8 tA:=by
 intro i d s f H Q I h;refine isTrue_or jm0;cases c with
 |false=>show isTrue_or_nil e
 |true=>show e
def QoV(l:sy)(j:PW X (k5 zef) tB'):PW X (k5 eZ) (QtL tA tB'):=by
 intro g d s e H Q I h;refine isTrue_and jm3;cases c with
 |true=>show j g d i e H1 Q I1 f
 |false=>show#[H1,I1,f]
def QsH(l:sy)(j:PW X (k8 zef) tB'):PW X (k8 eZ) (tOr tA tB'):=by
 intro g d s e H Q I h;refine isTrue_or jm3;cases c with
 |true=>show#[H1,I1,f]
 |false=>show j g d i e H1 Q I1 f
def Qn7(f:sy):uZ qGg (QwM tA):=by
 show wF;show isTrue_not (f d s e H (λc H1=>Q (!c) H1) I h)
abbrev tIf(t:TT)(ta tb:TE):TE:=λd H Q=>t d H λc H1=>if BY then ta d H1 Q else tb d H1 Q
def Qhg{c:Expr}(j:PT X c tA)(m:SA)(l:Hd):Ĺ qMe (tIf tA ta tb):=by
 show Č e f Q;refine wpAny_IfExp (ň (yH j e f) d g #[H1,I1,i]);cases d with
 |true=>show m e g f H1 Q I1 i
 |false=>show l e g f H1 Q I1 i
#print"-"
abbrev SqL(K:Nk)(H:Hp)(a:Addr)(xs:Ø):Prop:=
 pC yG \/
  ∃(o:Obj) (b:Ń) (n:Nat),jm a=sO o/\o.cls=Ī/\o.dict=nO/\qih
abbrev SqT(K:Nk)(H:Hp)(a:Addr)(xs:Ø):Prop:=
 pC tq \/
  ∃(o:Obj) (b:Ń) (n:Nat),jm a=sO o/\Mh/\qih
abbrev Qw2:Value->Δ V
 |.none=>iy
 |zj2=>sO jp
 |.int i _=>Ĝ i
 |.str x _=>Ϸ x
 |.bytes b _=>sO (.byt b)
 |.float b _=>sO (.flt b)
 |Ä a=>sO ħ
 |.type n=>sO zf5
 |_=>nO
def RelV.abs{x:V}{u:Value}(r:ó x):Qw2 u=sO x:=by
 cases x with
 |non=>cases r;rfl
 |bl _=>cases r;rfl
 |int _=>show og
 |str _=>show og
 |byt _=>show og
 |flt _=>show og
 |ref _=>cases r;rfl
 |ty _=>cases r;rfl
def RelV.inj{x y:V}{u:Value}(r:ó x)(q:ó y):x=y:=NZ (r.abs.symm.trans q.abs)
def Vals.inj{xs c:Ø}{us:Ï}(a:Ϝ)(b:ph c):xs=c:=by
 induction a generalizing c with cases b
 |nil=>rfl
 |cons r t f=>rename_i e d;rw[r.inj e,f d]
section
variable{X:Cx}{pins:Ý}{σ:St}{H:Hp}{s:Shared}{a:Addr}{xs ys:Ø}
def SqL.of{K:Nk}(h:zRg):zd9 H:=ß zmg
def SqT.of{K:Nk}(h:qMb):il H:=ß zmg
def Inv.list(I:á)(h:rS):∃its:Ï,uo/\PlainL s.heap a its.toArray/\Bx:=by
 rcases h with h|⟨o,its,n,hk,d,hd,c,b,r⟩
 ·let#[z,its,n,r,e]:=h.ok I.hok;show#[its,r,#[_,n,e,rfl,rfl,rfl],z]
 ·refine#[its.toList,r,#[o,n,xp7,d,hd,ø c],?_];show(Ž e r,qA1)
def Inv.tuple(I:á)(h:rV):∃its:Ï,uo/\IsTup s.heap a its.toArray/\Bx:=by
 rcases h with h|⟨o,its,n,hk,d,c,b,r⟩
 ·let#[z,its,r,p]:=h.ok I.hok;show#[its,r,p,z]
 ·refine#[its.toList,r,#[o,xp7,d,n,ø c],?_];show(Ž e r,qA1)
def Inv.list_inj(I:á)(h:rS)(h':SqL X.K H a ys):xs=ys:=by
 let#[c,r,#[o,n,e,_,_,d],_]:=Ad h;let#[b,i,#[l,m,f,_,_,g],_]:=Ad h';show jF3
def Inv.tuple_inj(I:á)(h:rV)(h':SqT X.K H a ys):xs=ys:=by
 let#[c,r,#[o,e,_,n,d],_]:=jP h;let#[b,i,#[l,f,_,m,g],_]:=jP h';show jF3
#print"-"
noncomputable abbrev Cx.wish(X:Cx)(E:Ô):Cx:={ X with xe:=E }
noncomputable abbrev Cx.nox(X:Cx):Cx:=X.wish zad
def Cx.Ok.wish{X:Cx}(ok:X.Ok)(E:Ô):xk0:=
 jTj
def Cx.Ok.unwish{X:Cx}{E:Ô}(ok:xk0):X.Ok:=
 jTj
section
variable{X:Cx}{pins:Ý}{σ:St}{H:Hp}{s:Shared}{E:Ô}
def Inv.wish(I:á)(E:Ô):qrf:=#[I.ok.wish E,I.os,I.bare,I.base,I.loc,I.cell,I.free,I.freeC,I.pin,I.hok,I.len]
def Inv.unwish(I:qrf):á:=#[I.ok.unwish,I.os,I.bare,I.base,I.loc,I.cell,I.free,I.freeC,I.pin,I.hok,I.len]
def SP.unwish{D:Ends}{f:Flow}{c:Shared}(h:SP qMf pins D f c):SP X pins D f c:=by
 cases f with
 |next=>show zAb
 |brk=>show zAb
 |cont=>show zAb
 |ret u=>let#[v,a,b,I,r,q]:=h;show#[v,a,b,I.unwish,r,q]
def PSs.nox{st:AH}{t:TS}(h:PSs X.nox st t):zla t:=λpins s σ H D I hw=>
 Eb (h pins s σ H D (I.wish _) hw) (λ_ _ q=>q.unwish) λ_ _ z=>T7 z
#print"-"
section
variable{X:Cx}{st:Stmt}{rest:AH}{t u:TS}{e:Expr}{te:TE}{pos:Pos}
abbrev Qr7:TS:=λD a H=>lS H
abbrev Qt2(t u:TS):TS:=λD a H=>t { D with nx:=u D } a H
def Qkk:PSs X [] Qr7:=λ_ _ a H _ I h=>LJ #[a,H,I,h]
def Qgk(h1:jd8)(h2:PSs X rest u):PSs X xp8 (Qt2 t u):=by
 show Č a c D;refine wpAny_execs_cons (ň (h1 a s c H { D with nx:=u D } I h) f d q);cases f with
 |next=>
  let#[b,i,g,q]:=q;show h2 a d b i D g q
 |ret v=>show q
 |brk=>show q
 |cont=>show q
def Qki(h1:jd8):PSs X [st] t:=by
 show Č a b D;refine wpAny_execs_cons (ň (h1 a s b H D I h) f c q);cases f with
 |next=>show LJ q
 |ret v=>show q
 |brk=>show q
 |cont=>show q
def Inv.quiet{a:Ý}{σ:St}{H:Hp}{s:Shared}(I:Ĩ a):interactive X.env=false:=by simp[interactive,I.ok.kind]
abbrev QsC(te:TE):TS:=λD a H=>te a H λ_ H1=>lS H1
def QlD(g:SB)(f:swapsWith e nO pos.line X.env=T5:=by rfl):PS X xcd (QsC te):=by
 show Č a b D;refine wpAny_Expr_any jna I.quiet f;show(Ŷ x j d c,#[b,H1,I1,d])
abbrev Qv1(te:TE):TS:=λD a H=>te a H D.rt
def Qoa(g:SB):PS X qA2 (Qv1 te):=by
 show Č a b D;refine wpAny_Return_some jna;show(jp8,#[x,b,H1,I1,d,f])
abbrev QwS(c:TT)(t u:TS):TS:=λD a H=>c a H λb H1=>if Hx then t D a H1 else u D a H1
def Qto{c:Expr}{a b:AH}{i:TT}(m:uZ c i)(o:PSs X a t)(n:PSs X b u):PS X (.If c a b pos) (QwS i t u):=by
 show Č f g D;refine wpAny_If (ň (yH m f g) d j #[H1,I1,l]);cases d with
 |true=>show o f j g H1 D I1 l
 |false=>show n f j g H1 D I1 l
#print"-"
noncomputable abbrev TG:=V->qne
noncomputable abbrev TGs:=Ø->qne
abbrev PG(X:Cx)(target:Expr)(t:TG):Prop:=
 ∀(a:Ý) (s:Shared) (c:St) (H:Hp) (v:V) (u:Value) (Q:Cb),zo a c->ó v->t v c H Q ->
  ĩ (assign target X.env u) (jH6 e d)
abbrev PGs(X:Cx)(g:ā)(t:TGs):Prop:=
 ∀(a:Ý) (s:Shared) (c:St) (H:Hp) (d:Ø) (e:Ï) (Q:Cb),zo a c->Vals d e->t d c H Q ->
  wpAny qK X.A (assignInOrder ((assignEach g X.env).map (·.2)) e) (jH6 h f) X.xe s
noncomputable abbrev QsL:=qph
abbrev QuK(X:Cx)(t:QsL):Prop:=
 ∀(a:Ý) (s:Shared) (b:St) (H:Hp) (o i v:V) (c d u:Value) (Q:ϒ),Η->Ť o c->Ť i d->ó v->t o i v H Q ->
  ĩ (setItem c d u) (λ_ f=>∃e,ţ a b e f/\Q e)
noncomputable abbrev TIp:=V->V->TN
abbrev PIp(X:Cx)(op:Operator)(t:TIp):Prop:=
 ∀(a:Ý) (s:Shared) (b:St) (H:Hp) (x y:V) (v u:Value) (Q:VK),Η->jk->ó y->t x y H Q ->
  ĩ (inplaceOp op v u) uh
section
variable{X:Cx}{pos:Pos}
abbrev Qdz(i:Nat):TG:=λv a H Q=>Q (a.set i CY) H
def Qf4{i:Nat}{x:Str}(hN:X.N.Nodup)(hi:Ϙ)(b:j5)(c:AY:=by show yv):PG X yV zi7:=by
 intro a s e H v u Q I r h;show wpAny_assign_Name (UC I hN hi b r (λf d=>#[_,H,d,h]) c)
abbrev Qun:TGs:=λb a H Q=>b=[]/\Q a H
abbrev Qpf(t:TG)(u:TGs):TGs:=λc b H Q=>∃v r,c=v::r/\t v b H λa d=>u r a d Q
def Ql4:PGs X [] Qun:=by
 intro a s b H c d Q I r h;let#[e,h]:=h;show(Bc e r,assignInOrder_nil #[b,H,I,h])
def Qiu{e:Expr}{es:ā}{t:TG}{u:TGs}(h1:PG X e t)(h2:PGs X es u)
  (i:(assignEach qO X.env).map (·.2)=assign e X.env::(assignEach es X.env).map (·.2):=by rfl):PGs X qO (Qpf t u):=by
 intro a s c H l n Q I r h;let#[v,m,j,h]:=h;subst j;cases r with
 |cons r rr=>
  rw[i];refine assignInOrder_cons (thn (h1 a s c H _ _ _ I r h) λ_ f d=>?_);show(Γ b H1 I1 g d,h2 a f b H1 _ _ Q I1 rr g)
abbrev Qwr(K:Nk)(n:Nat)(t:TGs):TG:=λv c H Q=>∃a b,ϐ/\xY/\RQ/\t b c H Q
def QpQ{es:ā}{k:Nat}{t:TGs}{n:Nat}(w:ı)(h:PGs X es t)
  (p:qha=n:=by rfl) (d:(assignEach es X.env).findIdx? (·.1)=nO:=by rfl):PG X (zcj k) (Qwr X.K n t):=by
 intro c s f H v u Q I r hw;let#[a,g,y,m,q,hw]:=hw;show Bc y r;let#[i,rv,l,A]:=jP m;refine assign_Tuple_tuple (Te w) l (by simp[p,<-q,rv.length]) d (Ó x j);let I1:xm c f x:=I.kept (t':=s.toks) λb o e=>jD j kQ;show h c _ f H g _ Q I1 (by simpa using rv) hw
abbrev QuV(b c:TE)(t:QsL):TG:=λv a H Q=>b a H λo H1=>c a H1 λi H2=>t o i v H2 λd=>Q a d
def Qnj{o i:Expr}{f g:TE}{t:QsL}(w:Ĺ o f)(hi:Ĺ i g)(q:QuK X t)
  (z:∀v,assign zu8 X.env v=(do
   let b <-jF4
   let c <-jp9 b
   standAt pos
   qY8 b c
   release [v,b,c] []):=by intro _;rfl):PG X zu8 (QuV f g t):=by
 intro a s d H v u Q I r h;rw[z];show(HX (N9 (Ak w a d b l e)),Ŷ x n p e,Ê (N9 (ň (hi a l d H1 _ I1 p) c j e)),Tz y m e);show ĵ (Lv (Na (N9 (thn (q a j d H2 x y v b c u _ I2 n m r q2) λ_ B #[A,I3,q3]=>?_))));show wpAny_release #[d,A,I3,q3]
abbrev QqS(te:TE)(g:TG):TS:=λD a H=>te a H λx H1=>g x a H1 D.nx
def Qjc{b e:Expr}{te:TE}{g:TG}(n:SB)(m:PG X b g)(l:qr2=T5:=by rfl)(hw:jO9:=by rfl)
  (h1:(assignEach [b] X.env).map (·.2)=qY9:=by rfl):PS X jOa (QqS te g):=by
 show Č a c D;refine wpAny_Assign_stores (Ak n a c v f d) l hw;show oe d;rw[h1];show thn (m a f c H1 x v _ I1 i j) λ_ o q=>q
def QjC{i:Nat}{x:Str}{e:Expr}{te:TE}{a:Pos}(hN:X.N.Nodup)(hi:Ϙ)(j:j5)(n:SB)(l:swapsWith e (sO (.Name x a)) pos.line X.env=T5:=by rfl)(m:AY:=by show yv) :
  PS X (eF [SU a]) (QqS te zi7):=by
 show Č b c D;refine wpAny_Assign_Name (Ak n b c v p d) l;show Ŷ y f g d;show UC I1 hN hi j f (λo I2=>#[_,H1,I2,g]) m
abbrev Qw1(i:Nat)(te:TE)(b:TIp):TS:=λD a H=>∃x,a[i]?=sO zjd/\te a H λy H1=>b x y H1 λz H2=>D.nx (a.set i (sO z)) H2
def QqL{i:Nat}{x:Str}{e:Expr}{te:TE}{op:Operator}{q:TIp}{g:Pos}(hN:X.N.Nodup)(hi:Ϙ)(o:j5)(Q:SB)(F:PIp X op q)(P:AY:=by show yv) :
  PS X (qI9 g) (Qw1 i te q):=by
 show(Č a p D,xwb U J M);let n:k6:=by rcases o with k|k;show(ß k,ÿ (ŧ k))
 let#[u,r,l]:=M i x v hi U n;refine wpAny_AugAssign_Name ?_
 let go:ĩ (u7 e) (λw f=>Pz (inplaceOp op u w) (qd7 r d (qCi r) (λ_=>SP X a D .next)) f):=by
  show(ϸ (yH Q a p) (Ú w t j),Ŷ y C E j,ϸ (F a t p H1 v y u w _ I1 r C E) (Ú z s2 j),Tz Y B j);show UC I2 hN hi o B (λZ I3=>#[_,H2,I3,q2]) P
 rcases l with⟨hk,L⟩|⟨hk,c,S,b⟩
 ·show YaH I.ok.kind hk J L go
 ·rcases hk with hk|hk
  ·show wpAny_loadName_cell I.ok.kind hk S b go
  ·rcases o with k|k
   show jM0
   show jM0
#print"-"
section
variable{X:Cx}{pos:Pos}
abbrev Qi1(c:TT)(tb:TS):TS:=λD a H=>∃W:Nat->Cb,(∃m,W m a H)/\∀m a H,W m a H ->
 c a H λb H1=>if Hx then∃N:Cb,(∀d f,N d f->∃e,e<m/\W e d f)/\qKc a H1 else lS H1
def Qih{c:Expr}{body:AH}{q:TT}{tb:TS}(r:zF)(F:uZ c q)(J:xk1):PS X qEg (Qi1 q tb):=by
 show Č d u D;let#[W,#[E,y],i]:=h;refine wpAny_While (codeAny_whileLoop (λn C=>∃g t,ţ d g t C/\W n g t) ?_ E #[u,H,I,y])
 rintro n B ⟨e,H1,I1,x⟩
 refine D8 r (ň (F d B e H1 _ I1 (i n e H1 x)) b z #[H2,I2,q2]);cases b with
 | true=>
  let#[N,hN,q2]:=q2;rw[Ĥ];refine D8 r (ň (J d z e H2 _ I2 q2) f L q3);cases f with
  |next=>
   show jJ1
  |cont=>
   show jJ1
  |brk=>show q3
  |ret v=>show q3
 |false=>
  rw[Õ N5];show LJ #[e,H2,I2,q2]
#print"-"
structure It where
 go:Nat->ϒ
 yld:Nat->Hp->V->ϒ
 stop:Nat->ϒ
abbrev Qc5(X:Cx)(a:Ý)(H:Hp)(b:Addr):Prop:=
 ϰ/\zP4/\jg4/\qbf/\(∀x c,jJ->c≠b)/\∀p∈X.pn++a,p.1≠b
def Inv.fpOk{X:Cx}{a:Ý}{σ:St}{H f:Hp}{s:Shared}{b:Addr}(I:Ĩ a)(d:s.heap.objs.size<=b)(h:f b=nO):HI a f:=by
 refine#[h,EB (Ng I.lt d),I.nofs d,ô (Nh I.sz d),ś x c e z,Ú p g z]
 ·let#[v,q]:=iL I e;show č (Ng q.lt zu9) cM
 ·show č (Ng (NL (I.pin p g).1) zu9) cM
structure Turn(P:Program)(w:World)(K:Nk)(tg:Expr)(J:It)(fp:ς)(it:Addr)(tn:Nat->cy):Prop where
 mem:it∈fp
 obj:∀i h,tn i h->∀b∈fp,∃o,yf/\qKd
 keep:∀i h h',tn i h->(∀b∈fp,∀o,yf->zxg)->tn i h'
 item:∀(X:Cx),X.prog=P->X.w=w->X.K=K->ı->∀(i:Nat) (pins:Ý) (s:Shared) (σ:St) (H:Hp) (E:Ô),á->jH7->iJ s->zha ->
  wpAny vI X.A RK (λr s1=>∃u,r=sO u /\
   wpAny vI X.A qn5 (λ_ s2=>∃x H',CQ H' s2/\ó x/\zhb H'/\tn (i+1) s2.heap/\∀b∈fp,H' b=nO) E s1) E s
 done:∀(X:Cx),X.prog=P->X.w=w->X.K=K->ı->∀(i:Nat) (pins:Ý) (s:Shared) (σ:St) (H:Hp) (E:Ô),á->jH7->iJ s->zde ->
  wpAny vI X.A RK (λr s1=>r=nO/\CQ H s1) E s
 self:∀(A:Around) (i:Nat) (s:Shared) (Q:Ô) (E:Ô),iJ s->Q PZ s->cG vI (qb PZ)
noncomputable abbrev TI:=St->qxh
abbrev PIE(X:Cx)(a:Ý)(σ:St)(i:Expr)(R:gx)(c:Value)(f:Shared):Prop:=
 ∃(g:Addr) (h:ς) (e:Nat->cy) (J:It) (d:Hp),c=Ä g/\ţ a σ d f/\Turn X.prog X.w X.K i J h g e/\e 0 f.heap/\(∀b∈h,HI a d)/\R J d
abbrev PI(X:Cx)(d iter:Expr)(c:TI):Prop:=
 ∀(a:Ý) (s:Shared) (b:St) (H:Hp) (R:gx),Η->c b H R ->
  ĩ zMh (λv e=>Pz (qb v) (PIE X a b d R) e)
def G4 {M:Model} {A:Around} {E:Ô} {s:Shared} {b:Expr} {it:Addr} {u:Value} {o:Obj} {n:String} {vs:Ń} {Q:qp} (c:s.heap.get? it=sO o) (e:o.cls=.type n) (hd:o.data=.fields vs)
    (d:jU0=false) (a:Q () s):cG M (letOwnedTupleGo b PZ u):=by
  unfold letOwnedTupleGo
  cases b<;>first
    |show Nn a
    |(cases u<;>first
        |show Nn a
        | (show Ê (YaI c ?_)
           rw[e,hd];apply cG M (BJ (jU0&&vs[0]?==sO (rawInt _)));rw[if_neg (by intro h;rw[d,Bool.false_and]at h;cases h)]
           show Nn a))
abbrev Itl(K:Nk)(a:Addr):It:=
 #[λi H=>∃b x,Su b/\tZ,λi H x c=>c=H/\jM1,λi H=>∃b,Su b/\xwf]
abbrev Itt(K:Nk)(a:Addr):It:=
 #[λi H=>∃b x,xY/\tZ,λi H x c=>c=H/\jpa,λi H=>∃b,xY/\xwf]
abbrev Itr(lo:Int)(n:Nat):It:=#[λi _=>i<n,λi H x a=>a=H/\x=Â (lo+i),zXe]
def QeQ{P:Program}{w:World}{K:Nk}{N:Expr}(a it:Addr):Turn P w K N xwg [it] it (λi h=>h.IsListIter it a i) where
 mem:=Ç
 obj:=λi h st b g=>by
  show P7 g
  show jWi
 keep:=jC8 q
 item:=by
  intro X y hw A L i f s J H E I n st t;subst y hw A;show(Γ M x m l t,jM2,jc6 U l,HR n);refine wpAny_pyNext_list_item st p.isList (x:=u) zK7 (Ú q j S);let I1:xm f J q:=I.turned (t':=s.toks) (P8 o g e S) F f1 D C B;show(kA j,#[u,rfl,ox q #[x,H,I1,U,qBe Z m l,j,ur g n]])
 done:=by
  intro X y hw A L i f s J H E I n st t;subst y hw A;show(ϋ M m l t,jM2,HR n,bR);show wpAny_pyNext_list_end oa st p.isList (qu2 l) λq eb=>#[rfl,I.turned (t':=s.toks) (qkd g) F f1 D C B]
 self:=λ_ _ _ _ _ st h=>wpAny_pyIter_listiter st h
def QcI{P:Program}{w:World}{K:Nk}{N:Expr}(a it:Addr):Turn P w K N xwh [it] it (λi h=>zR6 a) where
 mem:=Ç
 obj:=λi h st b j=>by
  show P7 j
  show jWi
 keep:=jC8 r
 item:=by
  intro X y hw A L i f s J H E I q st t;subst y hw A;show(Γ M x n m t,jLj,jc6 U m,HR q);refine wpAny_pyNext_tuple_item st jK5 (x:=u) zK7 (Ú r l S);let I1:xm f J r:=I.turned (t':=s.toks) (P8 o j e S) F f1 D C B;show kA l;show#[u,rfl,ox r #[x,H,I1,U,#[rfl,λys Z=>by rw[I.tuple_inj Z n];show m],l,ur j q]]
 done:=by
  intro X y hw A L i f s J H E I q st t;subst y hw A;show(ϋ M n m t,jLj,HR q,bR);show wpAny_pyNext_tuple_end oa st jK5 (qu2 m) λr eb=>#[rfl,I.turned (t':=s.toks) zn6 F f1 D C B]
 self:=λ_ _ _ _ _ st h=>wpAny_pyIter_tupleiter st h
def Qch{P:Program}{w:World}{K:Nk}{C:Expr}(it:Addr)(lo:Int)(n:Nat):Turn P w K C xp9 [it] it (λi h=>IsRangeIter h it (lo+HA*1) (ū-HA) 1) where
 mem:=Ç
 obj:=λi h st b c=>by
  show P7 c
  subst e
  show#[_,st,λv z=>by
   show qA3 B]
 keep:=quh g
 item:=by
  intro X m hw p l i a s y H E I f st j;show jnd;let W:=Walks.range (prog:=X.prog) (w:=X.w) (Te l) it lo 1 n;refine W.item i s _ _ j st λv g tk F d D=>?_;show Ċ F;let I1:qEh y g:=I.turned (λb o c e=>jD D wZ) x f1 u r q;refine#[_,rfl,qli g d #[Â (lo+i),H,I1,HJ t,ζ,d,ur c f]];rw[Int.mul_one]
 done:=by
  intro X m hw p l i a s y H E I f st j;show jnd;show Yag (Te l) st (by let:n<=i:=j;lia) (Ľ g J #[rfl,I.turned (t':=s.toks) (za9 c J) x f1 u r q])
 self:=qBf
section
variable{X:Cx}{tg:Expr}
def QaV{a:Ý}{σ:St}{H:Hp}{s:Shared}{R:gx}{E:Ô}{lo hi:Int}{t u v:Tok}{tk:Nat}(I:Ĩ a)(h1:-qui<=lo)(h2:lo<2^62)(f:-qui<=hi)(d:hi<2^62)
  (q:R (Itr lo zM8) H):wpAny qK X.A (qb AZ) (PIE X a σ tg R) E { s with heap:=jx2,toks:=tk }:=by
 refine qBg (small_one h1 h2 f d);let I1:Inv X a σ H { s with heap:=jx2,toks:=tk }:=I.kept fQ
 refine#[zp9,[zp9],_,_,H,rfl,
  jEa,Qch _ lo zM8,?_,Ó b c,q]
 ·let h:lo+CN*1=lo:=Ç
  let g:jK7-CN=Builtin.Range.rangeSize lo hi 1:=by rw[rangeSize_one];split<;>lia
  apply IsRangeIter _ _ (lo+CN*1) (jK7-CN) 1;rw[h,g];show Ű
 ·let e:b=zp9:=ø c
  show gJ
abbrev Qrt(c:TA):TI:=λa H R=>c a H λb H1=>∃j:Int,b=[Â j]/\xce/\j<2^62/\R (Itr 0 j.toNat) H1
abbrev Qsf(c:TA):TI:=λa H R=>c a H λb H1=>∃i j:Int,b=qk/\(xcf/\jpb)/\R (Itr i zXf) H1
def QfX{a:Expr}{d:TA}{p pos:Pos}(n:cq)(m:xW)(o:zk9 d)(l:yt:=by rfl):PI X tg jOb (Qrt d):=by
 show Č b f R;refine Call_ (Xn I n m boot_range (EA (ň (vC o b f) v w g) l rfl));show Ŷ u i c g;let#[j,e,c,q2,q]:=c;subst e;cases i with
 |cons r rr=>
  cases rr;show(Ċ r,call_range_1 (QaV I1 Ñ Ñ c q2 (ĝ q)))
def Qei{a b:Expr}{g:TA}{p pos:Pos}(w:cq)(v:xW)(x:PA X [a,b] g)(u:jVe:=by rfl)(d:jDd:=by rfl) :
  PI X tg jOc (Qsf g):=by
 show Č c l R;refine Call_ (Xn I w v boot_range (EA (ň (vC x c l) z B m) (by rw[u,d]) (jlb d)));show Ŷ y n f m;let#[i,j,e,#[f,q2,q3,q4],q]:=f;subst e;cases n with
 | cons r rr=>
  cases rr with
  |cons o rr=>
   cases rr;show(AV t r A o,call_range_2 (QaV I1 f q2 q3 q4 q))
abbrev QuO(f:TI)(g:TG)(tb:TS):TS:=λD a H=>f a H λJ H1=>∃W:Nat->Nat->Cb,(∃m,W 0 m a H1)/\∀i m a H,W i m a H ->
 (zde/\lS H)\/(zha/\∃N:Cb,(∀b c,N b c->∃e,e<m/\W (i+1) e b c)/\∀x c,zhb c->g x a c λd H2=>qKc d H2)
abbrev GB(a:ς)(h:Heap):Ý:=a.filterMap λb=>(h.get? b).map λo=>(b,o)
def Xx{a:ς}{h:Heap}{b:Addr}{o:Obj}(c:b∈a)(e:yf):(b,o)∈GB a h:=IG.mpr #[b,c,SC e]
def Qet{a:ς}{h:Heap}{p:Addr×Obj}(c:p∈GB a h):p.1∈a/\h.get? p.1=HE:=by
 let#[b,d,e]:=IG.mp c;cases q:Ų b with
 |none=>show ð q e
 |some o=>
  rw[q]at e;let f:(b,o)=p:=NZ e;show Ϗ f #[d,q]
def Inv.pinned{a:Ý}{σ:St}{H:Hp}{s:Shared}{c:ς}(I:Ĩ a)(j:∀b∈c,HI a H)(i:∀b∈c,∃o,Ϲ/\qKd):Ĩ (a++GB c s.heap):=
 I.pins_of λp h=>(NI.mp h).elim (λz=>I.pin p jd9) λz=>by
  let#[f,e]:=Qet z;let#[l,f1,f2,_]:=j p.1 f;let#[o,g,d]:=i p.1 f;rw[e]at g;show ï g #[e,l,f1,f2,d]
def Inv.unpinned{a pl:Ý}{σ:St}{H:Hp}{s:Shared}(I:Ĩ (a++pl)):Ĩ a:=I.pins_of λp b=>zg (NS _ (Tt b))
def Qpe{iter:Expr}{body:AH}{wi:TI}{g:TG}{tb:TS}{pos:Pos}(L:zF)(hc:ı)(hi:rq)(hg:PG X tg g)(q:xk1)
  (hs:Br:=by intro _;rfl):PS X qyh (QuO wi g tb):=by
 show Č c σ D;refine wpAny_For (thn (hi c s σ H _ I h) λv s1 h1=>thn h1 λae s2 h2=>?_) hs;let#[it,P,tn,J,H2,e,I2,T,Y,f2,W,#[m0,w0],C]:=h2;subst e;let p:∀{y:Hp},zMi->∀b∈P,HI c y:=qEi q
 refine codeAny_forLoop_any (λn s'=>∃i l y,ţ c l y s'/\iJ s'/\zMi/\W i n l y) ?_ m0 #[0,σ,H2,I2,Y,ur q f2,w0]
 rintro n s3 ⟨i,j,Q,I3,E,M,w3⟩
 rcases C i n j Q w3 with⟨stop,qn⟩|⟨go,N,hN,step⟩
 ·refine D8 L (ň (T.done X rfl rfl rfl hc i c s3 j Q X.xe I3 (p M) E stop) r s4 xwi);subst hr;show LJ #[j,Q,I4,qn]
 ·refine D8 L (ň (T.item X rfl rfl rfl hc i c s3 j Q X.xe I3 (p M) E go) r s4 xk2);subst hr;refine D8 L (thn h4 λ_ s5 U=>?_);let#[x,H5,I5,r5,y5,B,aa]:=U;let ab:=I5.pinned (p aa) (T.obj _ _ B);refine D8 L (thn (hg _ s5 j H5 x u _ ab r5 qYa) λ_ s6 U=>?_);show Γ S H6 I6 q6 U;refine D8 L (ň (q _ s6 S H6 _ I6 q6) f Z z)
  let again:∀{a:St} {t:Hp},ţ (c++GB P s5.heap) a t Z->N a t->∃m,m<n/\∃i l y,ţ c l y Z/\iJ Z/\zMi/\W i m l y:=λ{a t} I7 F=>by
   let#[m',hm,w7]:=hN a t F;refine#[m',hm,i+1,a,t,I7.unpinned,T.keep _ _ _ B (jOd q I7),Ó b q,w7];let#[o,e,d]:=T.obj _ _ B b q;show(I7.pin (b,o) (zIa q)).2.1
  cases f with
  |next=>show jC9
  |cont=>show jC9
  |brk=>let#[a,t,I7,z]:=z;show#[a,t,I7.unpinned,z]
  |ret v=>let#[x7,a,t,I7,r7,z]:=z;show#[x7,a,t,I7.unpinned,r7,z]
#print"-"
noncomputable abbrev R2:=V->V->TN
abbrev OpR(X:Cx)(f:xh)(r:R2):Prop:=
 ∀(a:Ý) (s:Shared) (b:St) (H:Hp) (x y:V) (v u:Value) (Q:VK),Η->jk->ó y->zh2 ->
  ĩ (f v u) uh
abbrev UnR(X:Cx)(f:zP5)(r:V->TN):Prop:=
 ∀(a:Ý) (s:Shared) (b:St) (H:Hp) (x:V) (v:Value) (Q:VK),Η->jk->r x H Q ->
  ĩ (f v) uh
abbrev CallR(X:Cx)(f:Value)(r:qE):Prop:=
 ∀(a:Ý) (s:Shared) (b:St) (H:Hp) (c:Ø) (d:Ï) (Q:VK),Η->jg6->r c H Q ->
  ĩ (call f d) uh
abbrev QwQ(X:Cx)(r:V->qnf):Prop:=
 ∀(a:Ý) (s:Shared) (b:St) (H:Hp) (x:V) (v:Value) (Q:qq),Η->jk->r x H Q ->
  ĩ qyi zT7
abbrev tOp(r:R2)(b tb:TE):TE:=λa H Q=>b a H λx H1=>tb a H1 λy H2=>r x y H2 Q
abbrev tUn(r:V->TN)(b:TE):TE:=qYb b x
abbrev rI(C:Int->jda)(g:xwj):R2:=λx y H Q=>∃i j,gy/\y=Â j/\C i j/\qVe
abbrev rI0(g:xwj):R2:=λx y H Q=>∃i j,gy/\y=Â j/\qVe
abbrev rU(g:Int->V):V->TN:=λx H Q=>∃i,gy/\Q (g i) H
section
variable{X:Cx}{a b c:Expr}{ta tb tc:TE}{pos:Pos}
def Qtk(r:SA)(q:Hd){d:Ý}{s:Shared}{σ:St}{H:Hp}{R:V->V->ϒ}(I:Ĩ d)
  (h:ta σ H qu1) {Q:Ô} {f:xh}
  (p:∀v u i x y H2,ţ d σ H2 i->jk->ó y->R x y H2->jp7 i) :
  jn0 g e:=by
 show(ϸ (yH r d σ) (Ú v l j),Ŷ x n o j,ϸ (q d l σ H1 _ I1 o) (Ú u i j),Tz y m j,p v u i x y H2 I2 n m q2)
def Qrk{op:Operator}{r:R2}(j:ë zRj r)(m:SA)(l:Hd):Ĺ qKe eG:=by
 show wF;show wpAny_BinOp (Qtk m l I h λv u f x y H2 I2 i g q=>j d f e H2 x y v u Q I2 i g q)
def Qs6{op:UnaryOp}{r:V->TN}(l:UnR X (unaryOp op) r)(m:SA):Ĺ (.UnaryOp op a pos) (tUn r ta):=by
 show wF;refine UnaryOp_ (Ak m d e v g f);show(oe f,l d g e H1 x v Q I1 i j)
def opI{f:xh}{C:Int->jda}{g:Int->jg7}
  (rule:∀(i j:Int) (t u:Tok) (s:Shared) (Q:Ô) (E:Ô),C i j->ju8) :
  ë f (rI C jOe):=by
 intro d s o H x y v u Q I m l h;let#[i,j,rfl,rfl,n,q]:=h;show(zm8,rule i j t e s _ _ n jD3)
def Qsr{f:xh}{g:Int->jg7}
  (rule:∀(i j:Int) (t u:Tok) (s:Shared) (Q:Ô) (E:Ô),ju8) :
  ë f (rI0 jOe):=by
 intro d s n H x y v u Q I m l h;show(RV,zm8,rule i j t e s _ _ jD3)
def QtI{f:xh}{g:Int->Int->Bool}
  (rule:∀(i j:Int) (t u:Tok) (s:Shared) (Q:Ô) (E:Ô),Q (Tq km) s->qP jEb Q E) :
  ë f (rI0 λi j=>ñ km):=by
 intro d s n H x y v u Q I m l h;show(RV,zm8,rule i j t e s _ _ #[ñ km,H,I,rfl,q])
abbrev QvB(i j:Int):Prop:=zn9
abbrev QvP(i j:Int):Prop:=zE0
abbrev CMul(i j:Int):Prop:=zC6
def CMul.ok{i j:Int}(h:CMul i j):IntMulOk i j:=by
 rcases h with⟨e,d⟩|⟨e,d⟩
 ·show .of_left qKf
 ·show .of_right qKf
def op_add:ë xT jz8:=Qsr λ_ _ _ _ _ _ _ q=>add_int q
def QnB:ë qVi (rI0 λi j=>Â (i-j)):=Qsr λ_ _ _ _ _ _ _ q=>sub_int q
def Qnv:ë tr (rI CMul λi j=>Â (i*j)):=opI λ_ _ _ _ _ _ _ d q=>mul_int q d.ok
def QmM:ë qIa (rI QvB λi j=>Â (i/j)):=opI λi j _ _ _ _ _ d q=>by
 let e:jn<j:=d.1;let f:zIc:=d.2;show floordiv_int (OR e) (by rw[Int.fdiv_eq_ediv_of_nonneg i (Ya6 e)];show q) (ŧ (Yai ĥ))
def QnS:ë qVj (rI (λ_ j=>0<j) λi j=>Â (i%j)):=opI λi j _ _ _ _ _ d q=>by
 let e:jn<j:=d;show mod_int' (OR d) (by rw[Int.fmod_eq_emod_of_nonneg i (Ya6 d)];show q)
def QpV:ë qW0 (rI QvP λi j=>Â zOf):=opI λ_ _ _ _ _ _ _ d q=>pow_int_small d.1 d.2.1 d.2.2 q
def Qll:ë qS7 jz8:=Qsr λ_ _ _ _ _ _ _ q=>iadd_int q
def unI{f:zP5}{g:jg7}
  (rule:∀(i:Int) (t:Tok) (s:Shared) (Q:Ô) (E:Ô),zvb (.int (g i) s.toks)->qP (f ky) Q E) :
  UnR X f (rU λi=>Â (g i)):=by
 intro d s j H x v Q I e h;show(zm9 i h e,rule i t s _ _ #[Â (g i),H,ų,û,q])
def QoD:UnR X (unaryOp .USub) (rU λi=>Â (-i)):=unI λ_ _ _ _ _ q=>neg_int q
#print"-"
section
variable{X:Cx}{a b c:Expr}{ta tb tc:TE}{pos:Pos}
def Qd8{d:Ý}{σ:St}{H:Hp}{s:Shared}{Q:VK}{k k':Bool}(I:Ĩ d)(q:Q (.bl k) H)(e:k=k'):pr d σ (Tq k'):=by
 show Ϗ e #[.bl k,H,I,rfl,q]
def op_lt:ë zP6 (rI0 λi j=>ñ jH4):=QtI λ_ _ _ _ _ _ _ q=>lt_int q
def Qsa:ë qW1 (rI0 λi j=>ñ (AK (j<i))):=QtI λ_ _ _ _ _ _ _ q=>gt_int q
def Qsq:ë qS8 (rI0 λi j=>zt4):=QtI λ_ _ _ _ _ _ _ q=>ge_int q
def QfF:ë zP6 (λx y H Q=>∃i j,x=Ü i/\y=Ü j/\Q (.bl (jJ2 i j)) H):=by
 intro d s g H x y v u Q I f e h;show(RV,AV t f l e,lt_str (Qd8 I q rfl))
def op_isN:ë zP7 (λx y H Q=>y=.non/\Q (.bl (AK (x=.non))) H):=by
 intro e s g H x y v u Q I d f h;show BH q h;cases f;refine is_none_gen xfd
 cases x<;>first
  |(cases d;rfl)
  |(show Ċ d;rfl)
def QkY:ë qMg (λx y H Q=>y=.non/\Q (.bl (uE (x=.non))) H):=by
 intro e s g H x y v u Q I d f h;show BH q h;cases f;refine isnot_none_gen xfd
 cases x<;>first
  |(cases d;rfl)
  |(show Ċ d;rfl)
def OpR.or{f:xh}{r j:R2}(h:ë f r)(h':ë f j):ë f (qIb j):=by
 intro d s e H x y v u Q I i g q
 show Ϩ q
 ·show h d s e H x y v u Q I i g q
 ·show h' d s e H x y v u Q I i g q
def Qma{op:CmpOp}{r:R2}(j:wU)(n:SA)(m:Hd)(l:nY):Ĺ PX eG:=by
 show wF;show wpAny_Compare1 (Qtk n m I h λv u f x y H2 I2 i g q=>j d f e H2 x y v u Q I2 i g q) l
abbrev Qsg(t:TE):TT:=λd H Q=>t d H (xk4 e)
def QkU{op:CmpOp}{r:R2}(o:wU)(t:SA)(q:Hd)(p:nY):uZ PX (Qsg eG):=by
 show Č d f Q
 refine wpAny_isTrue_Compare1 (thn (yH t d f) λv i #[x,H1,I1,m,n]=>thn (q d i f H1 _ I1 n) λu g #[y,H2,I2,l,q2]=>
  thn (o d g f H2 x y v u _ I2 m l q2) (Ú c A #[z,w,I3,j,k,e,q3])) p
 show(Bc e j,OA #[w,I3,q3])
abbrev Qta(K:Nk)(x:V)(H:Hp)(k:Bool):Prop:=
 match x with
 |.non=>k=false
 |.bl b=>k=b
 |Â i=>k=jdb
 |Ü y=>qeb
 |.byt y=>qg7
 |Ä p=>(∃d,xwc/\k=jag)\/(∃d,pz p d/\k=jag)\/∃e,H p=sO (.dK e)/\k=!e.isEmpty
 |_=>False
def QcB{κ:Type}{d:jb}{vs:jQ κ}(r:KV d vs):(!vs.isEmpty)=jag:=by
 show ST r
def Wl{xs:Ø}{its:Ï}(r:uo):(!its.toArray.isEmpty)=!xs.isEmpty:=by
 cases r<;>simp
def YN:xfe<2^63:=by rw[D0];decide
def QoE:QwQ X (λx H Q=>qYc H):=by
 intro A s E H x v Q I l h;show ϋ k e q h;let F:=YN;let D:zNh:=D0;cases x with
 |non=>
  cases l;let d:k=false:=e;subst d;show truthy_none #[H,I,q]
 |bl b=>
  cases l;let d:k=b:=e;subst d;show OA #[H,I,q]
 |int i=>
  show Ċ l;let d:k=jdb:=e;subst d;show PySem.P.truthy_int #[H,I,q]
 |str y=>
  show Ċ l;obtain⟨C,d⟩:qeb:=e;subst d;show PySem.P.truthy_str Í #[H,ų,q]
 |byt y=>
  show Ċ l;obtain⟨C,d⟩:qg7:=e;subst d;show PySem.W.truthy_bytes (Nt (ź (Nh C (Nv D)))) #[H,ų,q]
 |ref p=>
  cases l;let d:(∃j,iU p j/\xpc)\/(∃j,SQ p j/\xpc)\/∃f,H p=sO (.dK f)/\k=!f.isEmpty:=e
  rcases d with⟨j,n,d⟩|⟨j,n,d⟩|⟨f,n,d⟩
  ·subst d;show M9 z r u B n g;show wpAny_truthy_list u.isList (by simp only[ND];lia) jK8
  ·subst d;show(qJ z r u B n,Ž g r);show truthy_tuple u (by simp only[ND];omega) jK8
  ·subst d;obtain⟨B,hS,o,r,m⟩:qS3/\(mB p)=false/\∃o,KV f o/\s.heap.DictOf zP8 p o:=I.hok p _ n;let g:f.length=o.length:=N7 r;show wpAny_truthy_dict hS m Í #[H,ų,by rw[QcB r];show q]
 |_=>show ve e
def Qg9(m:SA)(l:jU1) :
  uZ a (λσ H Q=>ta σ H λx e=>qYc e):=by
 show Č d σ Q;refine isTrue_plain (Ak m d σ v g f) (l _);show(oe f,QoE d g σ H1 x v Q I1 i j)
def op_add_str:ë xT (λx y H Q=>∃i j,x=Ü i/\y=Ü j/\i.length+j.length<=sizeLine/\Q (Ay (i++j)) H):=by
 intro d s m H x y v u Q I g f h;let#[i,j,rfl,rfl,l,q]:=h;show AV t g e f;show add_str (λe tk=>#[Ü (i++j),H,ų,û,q]) l
def XZ{x:V}{us:Ï}(r:ph [x]):jEc:=by
 cases r with
 |cons e d=>show ï d #[_,rfl,e]
def Y6{x y:V}{us:Ï}(r:ph [x,y]):∃u w',us=[u,w']/\ó x/\Ť y w':=by
 cases r with
 |cons g f=>
  cases f with
  |cons e d=>show ï d #[_,_,rfl,g,e]
def QeR(f:ı):Ĵ zNi (jK9 (Ĕ qlj)):=by
 intro e s g H xs m Q I r h;show(xx0,qr3);refine max_two_ints (Te f) qh3
 by_cases d:j>i
 show jpc
 show jpd
def Qdy(f:ı):Ĵ qS9 (jK9 (Ĕ qm0)):=by
 intro e s g H xs m Q I r h;show(xx0,qr3);refine min_two_ints (Te f) qh3
 by_cases d:j<i
 show jpc
 show jpd
#print"-"
structure ObjM(h:Heap)(x dx C:Addr)(mA:Ē):Prop where
 obj:Ų x=sO (DO C dx)
 ns:h.Ns1 dx mA
 ne:dx≠x
def Qfn{h:Heap}{g:Addr}{d:Ē}(n:h.Ns1 g d):∃c,Ų g=sO c/\∀name,Oe name c=sO (d name):=by
 let#[o,f,p,j,hd,hk,_,l]:=n;refine#[o,j,λname=>?_];let e:=l name;unfold nsFind findBy at e;rw[<-Array.find?_toList]at e;unfold Oe;rw[hd];show jjh
 ·rename_i y q;rw[q]at e;show ji8 e
 ·rename_i q;rw[q]at e
  let a:f.toList.any (·.refKey)=false:=by
   rw[Ybm];intro y i;let#[z,t,b]:=hk y (YaJ.mp i);simp[DictEntry.refKey,b]
  let m:¬f.toList.any (·.refKey)=true:=uq a N5
  rw[Õ m];show ji8 e
def ObjM.look{h:Heap}{x c C:Addr}{b:Ē}(I:ObjM h x c C b):∃a,PySem.W.InstAt h x (DO C c) C jj3/\∀name,Oe name a=sO (b name):=
 let#[a,d,e]:=Qfn I.ns
 #[a,#[I.obj,rfl,rfl,d],e]
section
variable{prog:Program}{w:World}{A:Around}{E:Ô}{s:Shared}{K:Nk}{x dx C f:Addr}{mA:Ē}{name:Str}{v:Value}
def Qko{expr:Bool}{Q:Ô}(X:dw)(I:zJ8)(e:qYd)(d:zbe)
  (g:qD2=sO nO) (b:mA name=sO v) (a:Yby v=true) (h:zvb v) :
  ò (getAttr MK name expr):=by
 show jlc i c;show PySem.W.get_value X J (L9 e).1 (PySem.W.findObj_own d g rfl (by rw[c,b])) a h
def Qg7{pl:Sem Bool}{Q:jM3}(X:dw)(I:zJ8)(a:qYd)
  (g:qD2=sO Ap) (d:RW) (c:mA name=nO) (h:Q (Ä f,[Ä x]) s) :
  ò (getMethod MK name pl):=by
 show jlc b e;show PySem.W.method_fn X J (L9 a).1 (L9 a).2 g (beq_iff_eq.mp d) (by apply(Oe name b).map (·.isSome)=sO false;rw[e,c];rfl) h
def QlI{ns:Á}{Q:qp}(X:dw)(I:zJ8)
  (n:zy6) (o:zXg) (m:Yac K C name=sO nO) (p:zbe)
  (hw:Ya5 mA ns) (hsz:qP9)
  (h:∀h',ObjM h' x dx C (λy=>if y=name then sO v else mA y)->Heap.SameBut dx s.heap h'->Q () { s with heap:=h',toks:=s.toks+2 }) :
  ò (setAttr MK name v):=by
 show jlc z D;refine PySem.W.set_plain X J n (PySem.W.osa_open (s:={ s with toks:=jg }) (r:=nO) X J o m jG8);let#[cd,q,i]:=PySem.W.any_some p;let l:ů s x=sO #[Ä C,sO dx,.plain,#[]]:=I.obj;show Ê (Nn (Na (Na (wpAny_loadPart l (Na (PySem.W.Looks.here (s:={ s with toks:=jg }) (PySem.W.looks_clsIn X q) ?_))))));rw[i];refine Nn (a:=sO dx) (Na (Nn zbf));refine wpAny_nsSet1 (s:={ s with toks:=jg }) I.ns (Ú h' d c);let#[B,t,u,e,g,j]:=d.count (PySem.Within.cons name v hw);show Ê (wpAny_lookBehind e (by rw[g];show pastItsLine_dict (Nh j (by rw[NP];show NX hsz _))) ?_);show ύ (h _ #[(c.2 _ (N8 I.ne)).trans I.obj,d,I.ne] c)
def Qij{R:w9}{vs:Ï}{kw:yK}(X:dw)(a:zbg)
  (hi:qfa) (b:PySem.W.typeIn K TF=sO (.type "function"))
  (h:codeAny ŝ (A.under (.builtin "type.__call__" #[Ä C::vs,kw])) (.call TF #[Ä j0::vs,kw]) (PySem.W.InitBack j0 R)
   { s with heap:=qd8 }) :
  ff (.call qy #[vs,kw]) R s:=by
 let#[c,g,d,t,os]:=s;show PySem.W.make_core (PySem.W.makes_of X a) (PySem.W.looks_findIn X hi) (λself=>PySem.W.bind_fn X self b) jV h
#print"-"
set_option backward.eqns.deepRecursiveSplit false in
abbrev UT(f:Str)(v:V):ž V->ž V
 |[]=>jji
 |xpg=>if g=f then(g,v)::r else(g,x)::UT f v r
def GX(f g:Str)(v:V):∀fs:ž V,(UT f v fs).lookup g=if g=f then sO v else kB g:=by
 intro fs
 induction fs with
 |nil=>
  apply List.lookup g jji=_
  show Ě h g f
  ·show zJ0 f;simp only[List.lookup,a,Ò h]
  ·let a:(g==f)=false:=xk h;simp only[List.lookup,a,Õ h]
 | cons b r d=>
  show ĉ k x b;let c:=d;show zy0
  ·rw[zfb]
   show Ě h g k
   ·show zJ0 k;simp only[List.lookup,a,if_pos (h.trans hk)]
   ·let a:xph:=xk h;simp only[List.lookup,a,if_neg (λe:g=f=>h (e.trans hk.symm))]
  ·rw[zfc]
   show Ě h g k
   ·show zJ0 k;simp only[List.lookup,a,if_neg (λe:g=f=>hk (h.symm.trans e))]
   ·let a:xph:=xk h;simp only[List.lookup,a];show c
def U5(f:Str)(v:V):∀fs:ž V,f∈(UT f v fs).map (·.1)/\∀g,g∈fs.map (·.1)->g∈(UT f v fs).map (·.1):=by
 intro fs
 induction fs with
 |nil=>
  show#[by simp[UT],λg h=>AF h]
 | cons a r b=>
  show(ĉ k x a,ĉ d c b,zy0)
  ·rw[zfb];subst hk;show#[Ç,λg h=>ø h]
  ·rw[zfc];refine#[?_,Ó g h]
   ·rw[Nw];show C4 d
   ·rw[Nw]at h ⊢
    show T3 h e
    ·show NJ.mpr (ŧ e)
    ·show C4 (c g e)
def Qax(f:Str)(v:V):∀fs:ž V,(UT f v fs).length<=fs.length+1:=by
 intro fs
 induction fs with
 |nil=>
  simp[UT]
 |cons a r c=>
  show ĉ k x a;let b:=c;show zy0
  ·rw[zfb,NP,NP];show Sk
  ·rw[zfc,NP,NP];show NX b _
def RelO.some_of{v:V}{o:vG}(r:RelO CY o):∃u,o=sO u/\ó v:=by
 cases o with
 |none=>show ve r
 |some u=>show#[u,rfl,r]
def RelO.none_of{o:vG}(r:RelO nO o):o=nO:=by
 cases o with
 |none=>rfl
 |some u=>show ve r
def QfU{v:V}{u:Value}(r:ó v):Yby u=true:=by
 cases v with
 |non=>cases(show zV4 from r);rfl
 |bl b=>cases(show u=zi6 b from r);rfl
 |int i=>show ye e jF5;rfl
 |str x=>show ye e jpf;rfl
 |byt b=>show ye e (show qK8 from r);rfl
 |flt b=>show ye e (show qK9 from r);rfl
 |ref a=>cases(zp8 r);rfl
 |ty n=>cases(show xfb from r);rfl
section
variable{P:Program}{w:World}{H H':Hp}{h h':Heap}{a C dx:Addr}{fs fs':ž V}
def Um(c:CU)(e:fH):∃b,ObjM h a dx C b/\(∀f,zM5 b)/\Ya5 b (fs.map (·.1))/\xc7/\H dx=xw9:=by
 let#[d,z,ne,ob,b,n,r,q]:=(show c8 xcg  from c a _ e)
 show#[b,#[ob,n,ne],r,q,z,d]
#print"-"
structure Cls(K:Nk)(C:Addr):Prop where
 pg:qKg
 hd:zbe
 po:zXg
 sa:zy6
def Cls.get{K:Nk}{C:Addr}(c:l8)(f:Str):Im K C f=true:=c.pg
abbrev NoAttr(K:Nk)(C:Addr)(f:Str):Prop:=eS f=sO nO
def NoAttr.taker{K:Nk}{C:Addr}{f:Str}(n:zV6):Yac K C f=sO nO:=by
 unfold Yac;rw[show eS f=sO nO from n];rfl
structure Meth(K:Nk)(C:Addr)(m:Str)(f:Addr):Prop where
 at_:eS m=sO Ap
 fn:RW
 kp:xr
section
variable{X:Cx}{pins:Ý}{σ:St}{H:Hp}{s:Shared}{a C dx:Addr}{fs:ž V}{f:Str}{v:V}{A:Around}{E:Ô}
def QcE{b:Bool}{Q:Ô}(I:á)(e:fH)(c:i6)(n:rY)(l:zua)
  (h:∀u d,CQ H d->ó v->Q u d):TR (getAttr ħ f b):=by
 let#[i,O,r,_,_,_]:=jah;let#[u,hu,g]:=RelO.some_of (v:=v) (o:=i f) (xx1 f);show Qko I.kIn O (c.get f) c.hd n hu (QfU g) (h u _ zH0 g)
def Wq{m:Str}{g:Addr}{pl:Sem Bool}{Q:jM3}(I:á)(e:fH)(c:i6)(k:Meth X.K C m g)(l:zna)
  (h:Q (Ä g,TD) s):TR (getMethod ħ m pl):=by
 let#[b,O,r,_,_,_]:=jah;let d:b m=nO:=RelO.none_of (xx1 m);show Qg7 I.kIn O (c.get m) k.at_ k.fn d h
def Qcw{y:V}{u:Value}{Q:qp}(I:á)(e:fH)(c:i6)(n:rY)(D:rZ)(t:ó y)
  (h:∀j,CQ (Ĉ a (.ins C dx xk5)) j->Q () j):TR (setAttr ħ f u):=by
 let#[l,O,r,i,_,m]:=jah;let B:(fs.map (·.1)).length<=sizeLine:=by rw[Nq,D0];show Nt (N2 D Ñ)
 refine QlI I.kIn O c.sa c.po n.taker c.hd i B λL d p=>h _ ?_;let hd:∃o,L.get? dx=sO o:=let#[o,_,_,M,_]:=d.ns;#[o,M]
 refine I.write (x:=a) (e:=dx) znb (ü m) (P8 q J z p) hd ?_;refine#[by rw[Qz O.ne];show m,?_,O.ne,d.obj,_,d.ns,ļ g,Ó g F]
 ·let:=Qax f y fs;lia
 ·apply RelO ((UT f y fs).lookup g) qyj;rw[GX]
  show Ě q g f
  ·rw[Ò q,Ò q];show t
  ·rw[Õ q,Õ q];show r g
 ·show Ě q g f
  ·rw[q];show(U5 f y fs).1
  ·refine(U5 f y fs).2 g (i g λz=>F ?_);apply qyj=nO;rw[Õ q];show z
def Inv.made(I:á):Inv X pins σ (upd (upd H s.heap.objs.size (.own j0)) j0 (.ins C s.heap.objs.size []))
  { s with heap:=qd8 }:=by
 let c:(s.heap.push Dm).get? s.heap.objs.size=sO Dm:=NM s.heap rfl
 let j:((s.heap.push Dm).push zD3).get? j0=sO zD3:=by
  let:=NM (s.heap.push Dm) (o:=DO C s.heap.objs.size) rfl;rwa[DY]at this
 let i:(s.heap.push Dm).Ns s.heap.objs.size jai:=#[Dm,#[],_,c,rfl,(λe h=>ϟ h Å),ſ]
 let I1:=I.laid (a:=s.heap.objs.size) (o:=.own j0) (h':=s.heap.push Dm) (t':=s.toks) jG9 ĕ #[_,c];refine I1.laid (a:=yO) (o:=.ins C s.heap.objs.size []) (t':=s.toks) jG9 (Nv (DY _ _)) ?_;let ne:s.heap.objs.size≠yO:=NK B9;refine#[by rw[Qz ne,Js],NQ _,ne,j,Β,(Heap.Ns1.of_empty i).at λo q=>Ś q,λ_=>True.intro,λy g=>T4 g]
def Qmp{prog:Program}{w:World}{env:Env}{e:Expr}{f:Str}{pos:Pos}{s:Shared}{Q:Ô}(c:qgf)
  (h:Ct (uJ e) (Rt o b (getAttr o f true) Q) s):ò (uJ zJ9):=
 Attribute_any_ h (by rw[arm_eval_Attribute,c])
#print"-"
abbrev Qve(K:Nk)(c:TE)(f:Str):TE:=λb H Q=>c b H λx H1=>∃a C d fs v,jH/\H1 a=zZi d/\l8/\zV6/\zua/\Q v H1
abbrev Qvt(K:Nk)(d tv:TE)(f:Str):TS:=λD b H=>tv b H λy H1=>d b H1 λx H2=>∃a C c fs,jH/\H2 a=zZi c/\l8/\zV6/\rZ /\
 D.nx b (upd H2 a (.ins C c xk5))
section
variable{X:Cx}{o e value:Expr}{f:Str}{pos pos' tpos:Pos}{ta tv:TE}
def QpB(m:PE X e ta)(p:qe7):Ĺ zJ9 (Qve X.K ta f):=by
 show Č b d Q;refine Qmp p (Ak m b d u z g);let#[x,H1,I1,i,a,C,A,fs,v,r,t,c,n,l,q]:=g;show wv r u i;show QcE I1 t c n l λw y I2 j=>#[v,H1,I2,j,q]
def QnO(v:PE X o ta)(r:xk6)(t:jX9):PS X qec (Qvt X.K ta tv f):=by
 show Č b d D;refine plainObj_wpAny_Assign_Attribute (Ak r b d u i g) t;show(Ŷ y j q g,ϸ (v b i d H1 _ I1 q) (Ú p B g));let#[x,H2,I2,m,a,C,E,fs,w,z,c,n,l,q2]:=g;show(wv w p m,Qcw I2 z c n l j (Ľ A I3 #[d,_,I3,q2]))
def Qlh{pl:Sem Bool}{m:Str}{apos:Pos}{args:List Expr}{b:List (Addr×Obj)}{s:Shared}{σ:St}{H:Hp}{Q:Value->Shared->Prop}{te:TE}(t:PE X e te)(I:Inv X b σ H s)
  (h:te σ H λx H1=>∃a C j fs g,x=.ref a/\H1 a=sO (.ins C j fs)/\Cls X.K C/\Meth X.K C m g/\fs.lookup m=nO /\
   ∀d,Inv X b σ H1 d->wpAny (model X.prog X.w) X.A (callWith pos (.ref g) [.ref a] (backTo pos (starEach args X.env)) (backToKw pos (keywordEach [] X.env))) Q X.xe d)
  (r:eval (.Call (.Attribute e m apos) args [] pos) X.env=(do
   let i <-eval e X.env
   standAt apos.atName
   let(f,first) <-holding [i] (getMethod i m pl)
   callWith pos f first (backTo pos (starEach args X.env)) (backToKw pos (keywordEach [] X.env)))) :
  wpAny (model X.prog X.w) X.A (eval (.Call (.Attribute e m apos) args [] pos) X.env) Q X.xe s:=by
 refine Yax (pl:=pl) (thn (t b s σ H _ I h) λu d n=>?_) r;let#[x,H1,I1,p,a,C,j,fs,g,v,y,c,k,l,q]:=n;subst v;obtain rfl:u=Value.ref a:=p;show Wq I1 y c k l (q d I1)
#print"-"
section
variable{X:Cx}{pins:Ý}{σ:St}{H:Hp}{s:Shared}{A:Around}{E:Ô}{Q:Ô}{c:Value}{b:Bool}
inductive TyOf(K:Nk)(H:Hp):V->cf where
 |non:TyOf K H .non (.type "NoneType")
 |bl (x:Bool):TyOf K H (.bl x) (.type "bool")
 |int (i:Int):TyOf K H Į (.type "int")
 |str (x:Str):TyOf K H Φ (.type "str")
 |flt (x:UInt64):TyOf K H (.flt x) (.type "float")
 |lst {a:Addr} {xs:Ø} (e:zRg):c6 CI
 |frz {a:Addr} {o:Obj} {xs:Ø} (e:H a=sO (.frz o yG)):c6 CI
 |tup {a:Addr} {xs:Ø} (e:qMb):c6 tQ
 |dK {a:Addr} {kvs:ą V} (e:H a=sO (.dK kvs)):c6 Rk
 |dT {a:Addr} {kvs:Ő} (e:H a=sO (.dT kvs)):c6 Rk
 | ins {a C dx:Addr} {fs:ž V} (e:fH) (cl:l8) (ha:Df K qy "__class__"=sO (sO zE3))
   (hn:PySem.W.specialIn K zE3 "__get__"=sO (sO (.builtin "getset_descriptor.__get__"))) (htk:PySem.W.takesIn K zE3=sO true)
   (hm:PySem.W.mroIn K C (.type "object")=sO true):c6 qy
def Qem{x:V}{u t:Value}(I:á)(d:ó x)(ty:TyOf X.K H x t)(e:YbR X.K t c=sO b)(h:∀tk,Q wY { s with toks:=tk }) :
  TR (qp7 [u,c]):=by
 cases ty with
 |non=>cases(show zV4 from d);show EX PySem.W.kitx_none I.kIn True.intro e Bt h
 |bl y=>cases(show u=zi6 y from d);show EX PySem.W.kitx_bool I.kIn True.intro e Bt h
 |int i=>show(ye q (show zF2 from d),EX PySem.W.kitx_int I.kIn True.intro e Bt h)
 |str y=>show(ye q (qng y d),EX PySem.W.kitx_str I.kIn True.intro e Bt h)
 |flt y=>show(ye q (show∃t,u=Value.float y t from d),EX PySem.W.kitx_float I.kIn True.intro e Bt h)
 |@lst a l f=>
  show jz9 n g (zM (Ë l))
  show jy0
 |@frz a ob l f=>
  cases oh;let#[_,_,_,n,_,g]:=(zM (.frz ob (Ë l)))
  show jy0
 |@tup a l f=>
  cases oh;let#[_,_,_,p]:=(zM (ġ l))
  let#[o,g,m,_]:=p;show EX Ya7 I.kIn #[o,g,m] e Bt h
 |@dK a j f=>
  show jz9 N p (zM (.dK j))
  let#[o,L,M,g,m,_]:=p;show qb5
 |@dT a j f=>
  cases oh;let#[_,_,l,_,o,L,M,g,m,_]:=(zM (.dT j))
  show qb5
 |@ins a C U fs f v F B r D=>
  cases oh;let#[S,O,_]:=Um I.hok f;let#[P,J,_]:=O.look;show EX (PySem.W.kitx_own (v.get _) v.hd F B r D) I.kIn J e Bt h
#print"-"
structure Room(k:Nat)(A:Around):Prop where
 hd:Ξ
 dp:A.depth+3*k+5<recursionLimit
 un:A.units+16*k+200<cLine
def Room.mono{j k:Nat}{A:Around}(r:zhd)(h:j<=k):Room j A:=#[r.hd,by let:=r.dp;lia,qW2]
def Room.deeper{k:Nat}{A:Around}(r:qYe)(env:Env):Room k (A.deeper env):=
 #[r.hd,by let:=r.dp;apply A.depth+1+3*k+5<_;lia,by let:=r.un;apply A.units+3+16*k+200<_;lia]
def QcU{A:Around}{C:Addr}{us:Ï}{kw:yK}:(A.under jT8).depth=A.depth+1:=by
 first|rfl|simp[Around.under,Code.weight,Code.isCreation,Code.isGuard,Code.isCaller,Code.frames,Code.isFrame,guardIds]
def QcQ{A:Around}{C:Addr}{us:Ï}{kw:yK}:(A.under jT8).units=vy:=by
 first|rfl|simp[Around.under,Code.cUnits,Code.frames,Code.isFrame]
def Room.make{k:Nat}{A:Around}(r:qYe)(C:Addr)(us:Ï)(kw:yK):Room k jWa:=
 #[r.hd,by let:=r.dp;rw[QcU];lia,by let:=r.un;rw[QcQ];lia]
def Room.depth{k:Nat}{A:Around}(r:zhd):A.depth<recursionLimit:=by let:=r.dp;show Ni (Nh Ů Ů) this
def Room.units{k:Nat}{A:Around}(r:zhd):A.units+64<cLine:=qW2
abbrev Qr3:TA:=λ_ H Q=>Q [] H
abbrev QrX(d:TE)(c:TA):TA:=λa H Q=>d a H λx H1=>c a H1 λb H2=>Q (x::b) H2
section
variable{X:Cx}{e:Expr}{es:ā}{te:TE}{t:TA}{pos:Pos}
def Qpb:PA X [] Qr3:=λ_ _ _ _ H Q I h=>OE #[[],H,I,.nil,h]
def Qls(n:SB)(m:zfd)(l:zu:=by rfl):PA X qO (QrX te t):=by
 intro pos a s c H Q I h;rw[l];apply Ň (spliced (jXe::backTo pos vf));refine Ol (Ak n a c u f b);show(oe b,ϸ (m pos a f c H1 _ I1 j) (Ú o p b),Tz d g b,#[x::d,H2,I2,ė i g,q2])
abbrev Qv4(t:TA):TE:=λb H Q=>t b H (qwi (upd H1 p (ġ a)))
abbrev Qvh(t:TA):TE:=λb H Q=>t b H (qwi (upd H1 p wO))
def Qn3{i}(h:zfd):Ĺ (zcj i) (Qv4 t):=by
 intro a s d H Q I l;refine wpAny_Tuple_spliced (ň (h pos a s d H _ I l) j c f);let#[g,H1,I1,r,z,q]:=f;show(jVj m,qf #[δ c,jKb (ġ g),qca,rfl,q _ m] #[z,j,r,#[_,Ű,rfl,_,rfl]])
def QjA(h:zfd):Ĺ zQa (Qvh t):=by
 intro a s d H Q I j;refine wpAny_List_spliced (ň (h pos a s d H _ I j) i c f);let#[g,H1,I1,r,z,q]:=f;show(jVj l,qf #[δ c,jKb znc,qca,rfl,q _ l] #[z,i,0,r,Ű])
#print"-"
noncomputable abbrev Sp:=Ø->Hp->VK->XK->Prop
noncomputable abbrev CXT:=Ϟ->Hp->Shared->XK->Ô
structure Env0(P:Program)(w:World)(K:Nk)(mg:Ē)(base:Heap)(A:Around)(outer:Ϟ)(s:Shared)(H:Hp):Prop where
 frames:A.frames=sO outer
 mod:Mod K mg base
 bs:∀b o,base.get? b=sO o->Ϲ/\ϰ
 bsz:base.objs.size<=s.heap.objs.size
 funs:s.heap.FunFrames base outer
 frf:∀b∈frs outer,ϰ
 hok:jld H s
 bare:dU s
abbrev CE(a:Ϟ)(P:Program)(w:World)(H:Hp)(s:Shared)(Q:VK)(u:Value)(b:Shared):Prop:=
 ∃v c,b.os=s.os/\dU b/\Un (frs a) [] H c s.heap b.heap/\jld c b/\ó v/\Q v c
abbrev CR(CX:CXT)(a:Ϟ)(P:Program)(w:World)(H:Hp)(s:Shared)(Q:VK)(E:XK)(r:Result)(b:Shared):Prop:=
 match r with
 |.ok (.ret u)=>CE a P w H s Q u b
 |.ok _=>False
 |.error e=>CX a H s E e b
structure FnOk(P:Program)(w:World)(K:Nk)(mg:Ē)(base:Heap)(CX:CXT)(k:Nat)(f:Addr)(fd:FuncData)(ps:Á)(sp:Sp):Prop where
 len:qm1
 run:∀(A:Around) (outer:Ϟ) (s:Shared) (H:Hp) (args:Args) (us:Ï) (vs:Ø) (Q:VK) (E:XK),zhd->Env0 P w K mg base A outer s H->BindsTo s fd args k9->zdf->zbh ->
  codeAny vI A (.call TF args) (CR CX outer P w H s Q E) s
def FnOk.imp{P:Program}{w:World}{K:Nk}{c:Ē}{base:Heap}{CX:CXT}{k:Nat}{f:Addr}{fd:FuncData}{ps:Á}{sp b:Sp}(F:FnOk P w K c base CX k f fd ps sp)
  (h:∀vs H Q E,b vs H Q E->zbh):FnOk P w K c base CX k f fd ps b:=
 #[λvs H Q E q=>F.len vs H Q E (h _ _ _ _ q),λA a s H args d vs Q E i j l e g=>F.run A a s H args d vs Q E i j l e (h _ _ _ _ g)]
def Env0.make{P:Program}{w:World}{K:Nk}{b:Ē}{base:Heap}{A:Around}{a:Ϟ}{s:Shared}{H:Hp}(e:Env0 P w K b base A a s H)(C:Addr)(us:Ï)(kw:yK) :
  Env0 P w K b base jWa a s H:=#[by first|show e.frames|(simpa[Around.under,Code.envs,Code.isFrame,pushEnvs]using e.frames),e.mod,e.bs,e.bsz,e.funs,e.frf,e.hok,e.bare]
section
variable{X:Cx}{pins:Ý}{σ:St}{H:Hp}{s s':Shared}
def Inv.env0(I:á):Env0 X.prog X.w X.K X.mg X.base X.A X.stack s H:=
 #[I.ok.frames,I.ok.mod,I.bs,qYf,I.stack,I.stkFree,I.hok,I.bare]
def Inv.after{Q:VK}{u:Value}(I:á)(h:CE X.stack X.prog X.w H s Q u s'):EP X pins σ Q u s':=by
 let#[v,f,os,bare,un,c,r,q]:=h;show θ e g d t a s';obtain rfl:a=s.os:=os;show#[v,f,I.call (h':=e) (g':=g) (d':=d) (t':=t) (ch:=[]) un c bare (λb z=>ϟ z Å),r,q]
#print"-"
abbrev Qkx(sp:Sp)(a:Ø)(E:XK)(t:TA):TE:=λb H Q=>t b H λc H1=>sp (c++a) H1 Q E
abbrev Qr4(C:Addr)(m:Str)(sp:Sp)(b:Ø)(E:XK)(e:TE)(t:TA):TE:=λc H Q=>e c H λx H1=>∃a f fs,jH/\H1 a=zZi f/\zna /\
 t c H1 λd H2=>sp (x::(d++b)) H2 Q E
abbrev QsM(C:Addr)(sp:Sp)(b:Ø)(E:XK)(t:TA):TE:=λc H Q=>t c H λd H1=>∀x a,H1 x=nO->H1 a=nO->a≠x ->
 sp (Ä x::(d++b)) (upd (upd H1 a eY) x (.ins C a [])) qoa E
abbrev Binds(K:Nk)(fd:FuncData)(ps:Á)(b:Ï):Prop:=
 ∀(s:Shared) (a:Ï),dw->(a++b).length=ps.length->BindsTo s fd #[a,[]] (ps.zip (a++b))
def Binds.all{K:Nk}{fd:FuncData}{ps:Á}(h:∀us:Ï,qPc->bindArgs fd zK8=pure k9):xO:=λs us _ a=>by
 rw[EN]at a ⊢;show .of_eq (h us a)
abbrev Ko(CX:CXT)(X:Cx)(E:XK):Prop:=∀(a:Ý) (c:St) (H:Hp) (s:Shared) (e:Value) (b:Shared),zo a c->CX X.stack H s E e b->X.xe e b
section
variable{X:Cx}{CX:CXT}{k:Nat}{f C:Addr}{fd:FuncData}{ps:Á}{sp:Sp}{dvs:Ø}{ds:Ï}{E:XK}{x m:Str}{p pos apos:Pos}{e o:Expr}{es:ā}{ta:TE}{t:TA}
def Qf6{a:Ý}{σ:St}{H:Hp}{s:Shared}{Q:VK}{us:Ï}{vs:Ø}(F:zH)(i:Sv)(l:fU)(hd:dy)(g:He)
  (I:Ĩ a) (r:zdf) (h:sp su H Q E):ĩ (call TF us) xca:=by
 let c:Vals su zV7:=r.append hd;let j:(us++ds).length=ps.length:=by show(uW c,F.len _ _ _ _ h)
 refine wpAny_call (F6 (F.run X.A X.stack s H zK8 zV7 su Q E i I.env0 (l s us I.kIn j) c h) (Ú r d b));cases r with
 |error e=>show g a σ H s e d I b
 |ok n=>
  cases n with
  |ret u=>show I.after b
  |next=>show T7 b
  |brk=>show T7 b
  |cont=>show T7 b
def QkB(F:zH)(l:Sv)(u:΢)(n:RU)(hk:Ru)(y:fU)(hd:dy)(j:He)
  (z:tG) (c:ŭ:=by decide) (v:zu:=by rfl) (b:(backTo pos vf).any (·.1)=false:=by rfl) :
  Ĺ gN (Qkx sp dvs E t):=by
 show Č a g Q;refine DJ (QaQ I u n ?_ c);refine Ya8 (h₀:=X.base) I.ok.mod.kin hk (ň (vC z a g) D J i) v b;show Ŷ B r q i;refine#[I1.kIn,?_];show Qf6 F l y hd j I1 r q
def Qgj(F:zH)(d:Sv)(i:΢)(g:RU)(hk:Ru)(j:fU)(hd:dy)(c:He)
  (a:ŭ:=by decide):Ĺ nc (Qkx sp dvs E Qr3):=by
 show(Č b l Q,qz0,YaX I.kIn hk (Qf6 (us:=[]) F d j hd c I .nil h))
def Qkz{pl:Sem Bool}(P:PE X o ta)(c:Cls X.K C)(B:Meth X.K C m f)(F:FnOk X.prog X.w X.K X.mg X.base CX k f fd ps sp)(N:Room k X.A)(S:Binds X.K fd ps ds)(hd:Vals dvs ds)(L:Ko CX X E)(U:PA X (e::es) t)
  (g:starEach (e::es) X.env=(false,eval e X.env)::starEach es X.env:=by rfl) (i:(backTo pos (starEach es X.env)).any (·.1)=false:=by rfl)
  (M:eval (.Call (.Attribute o m apos) (e::es) [] pos) X.env=(do
   let y <-eval o X.env
   standAt apos.atName
   let(f,first) <-holding [y] (getMethod y m pl)
   callWith pos f first (backTo pos (starEach (e::es) X.env)) (backToKw pos (keywordEach [] X.env))):=by rfl) :
  PE X (.Call (.Attribute o m apos) (e::es) [] pos) (Qr4 C m sp dvs E ta t):=by
 intro b s j H Q I h;refine Yax (pl:=pl) (thn (P b s j H _ I h) λu D d=>?_) M;let#[x,H1,I1,J,a,dx,fs,Y,Z,l,q]:=d;subst Y;obtain rfl:u=Value.ref a:=J;refine Wq I1 Z c B l ?_;refine Ya8 (first:=[.ref a]) (h₀:=X.base) I.ok.mod.kin B.kp (thn (U pos b D j H1 _ I1 q) λv s2 d=>?_) g i;let#[n,H2,I2,r,q2]:=d;refine#[I2.kIn,?_];show Qf6 (us:=.ref a::v) (vs:=.ref a::n) F N S hd L I2 (.cons rfl r) q2
structure Mk(K:Nk)(C f:Addr):Prop where
 makes:zbg
 init:qfa
 fn:RW
 kp:zJ1
def Qgr{a:Ý}{σ:St}{H:Hp}{s:Shared}{Q:VK}{us:Ï}{vs:Ø}(M:Mk X.K C f)(F:zH)(l:zPa)(q:fU)(hd:dy)
  (j:He) (I:Ĩ a) (r:zdf)
  (h:∀x c,H x=nO->H c=nO->c≠x->sp (Ä x::su) (upd (Ĉ c eY) x (.ins C c [])) qoa E) :
  ĩ (call qy us) xca:=by
 let g:=h j0 s.heap.objs.size (jj6 I iW) (gY I) (NK B9);let I2:=Inv.made (C:=C) I;let d:Vals (V.ref j0::su) qc3:=.cons rfl (r.append hd)
 let n:(qhi++ds).length=ps.length:=by
  show Ž e d;rw[F.len _ _ _ _ g]at e;show e.symm
 refine wpAny_call (Qij (f:=f) I.kIn M.makes M.init (beq_iff_eq.mp M.fn) (F6 (F.run _ X.stack _ _ #[qhi,[]] qc3 _ _ E (l.make C us [])
  (I2.env0.make C us []) (q _ (Value.ref j0::us) I2.kIn n) d g) (Ú r i b)))
 cases r with
 |error e=>show j a σ _ _ e i I2 b
 | ok y=>
  cases y with
  |ret u=>
   let#[v,B,I3,rv,z,q3]:=I2.after b;show Ϗ z #[rv,#[V.ref j0,B,I3,rfl,q3]]
  |next=>show T7 b
  |brk=>show T7 b
  |cont=>show T7 b
def Qht(M:Mk X.K C f)(F:zH)(d:zPa)(i:΢)(g:zke=sO qy)(j:fU)(hd:dy)(c:He)
  (a:ŭ:=by decide):Ĺ nc (QsM C sp dvs E Qr3):=by
 show(Č b l Q,qz0,YaX I.kIn M.kp (Qgr (us:=[]) M F d j hd c I .nil h))
#print"-"
structure FnScope(N P:Á)(sc:Scope):Prop where
 kind:qW3
 co:qMh
 gen:qMi
 nd:N.Nodup
 pre:N.take P.length=P
 par:∀x∈P,zsf
 nofree:∀y∈sc.names,xx2
def Qe2{kindOf:qMj}{x:Str}:∀{binds:yK} {m:Ē},qBh->bindL kindOf binds m x=m x:=by
 intro binds
 induction binds with
 |nil=>
  show jaj
 | cons a r b=>
  show ĉ n v a;intro m h;unfold bindL;rw[qw2];split
  ·show jEd
  ·rfl
def QfZ{kindOf:qMj}{x:Str}:∀{binds:yK} {m:Ē},qBh->bindC kindOf binds m x=m x:=by
 intro binds
 induction binds with
 |nil=>
  show jaj
 | cons a r b=>
  show ĉ n v a;intro m h;unfold bindC;rw[qw2];split
  ·rfl
  ·show jEd
def U6{kindOf:Str->Option NameKind}{x:Str}{v:Value}:∀{P:List Str} {vs:List Value} {i:Nat} {m:Str->Option Value},P.Nodup->P[i]?=sO x->vs[i]?=sO v->kindOf x=sO .local ->
  bindL kindOf (P.zip vs) m x=sO v
 |[],_,_,_,_,h,_,_=>by simp at h
 |_::_,[],_,_,_,_,h,_=>by simp at h
 |p::P,w::vs,0,m,nd,h1,h2,hk=>by
  simp at h1 h2;subst h1;subst h2;apply bindL kindOf ((p,w)::P.zip vs) m p=_;unfold bindL;rw[Qe2 λv a=>(Ei.mp nd).1 (D9 a).1,if_pos hk];simp
 |p::P,w::vs,i+1,m,nd,h1,h2,hk=>by
  apply bindL kindOf ((p,w)::P.zip vs) m x=_;unfold bindL;show U6 (i:=i) (Ei.mp nd).2 (by simpa using h1) (by simpa using h2) hk
def GM{kindOf:Str->Option NameKind}{x:Str}{v:Value}:∀{P:List Str} {vs:List Value} {i:Nat} {m:Str->Option Value},P.Nodup->P[i]?=sO x->vs[i]?=sO v->kindOf x≠sO .local ->
  bindC kindOf (P.zip vs) m x=sO v
 |[],_,_,_,_,h,_,_=>by simp at h
 |_::_,[],_,_,_,_,h,_=>by simp at h
 |p::P,w::vs,0,m,nd,h1,h2,hk=>by
  simp at h1 h2;subst h1;subst h2;apply bindC kindOf ((p,w)::P.zip vs) m p=_;unfold bindC;rw[QfZ λv a=>(Ei.mp nd).1 (D9 a).1,if_neg hk];simp
 |p::P,w::vs,i+1,m,nd,h1,h2,hk=>by
  apply bindC kindOf ((p,w)::P.zip vs) m x=_;unfold bindC;show GM (i:=i) (Ei.mp nd).2 (by simpa using h1) (by simpa using h2) hk
abbrev start(N:Á)(vs:Ø):St:=vs.map sO++List.replicate (N.length-vs.length) nO
abbrev Qf9(CX:CXT)(P:Program)(w:World)(K:Nk)(mg:Ē)(base:Heap)(N:Á)(b:Str)(a:Scope)(f:Addr)(cd:Value)(A:Around)(outer:Ϟ)(s:Shared)(H:Hp)(E:XK):Cx where
 prog:=P
 w:=w
 K:=K
 mg:=mg
 base:=base
 A:=A.deeper zCi
 N:=N
 s₀:=s
 H₀:=H
 env:=quj
 outer:=outer
 stack:=quj::outer
 ex:=[]
 calm:=true
 fn:=i7
 pn:=[]
 xe:=λe d=>wpAny vI (A.deeper zCi) (leaving zCi e) (λ_ c=>CX outer H s E e c) (λg c=>CX outer H s E g c) d
def W5{sc:Scope}{n:Nat}{x:Str}(h:PU=Ae):∃c,(cellsFrom n sc.names []).lookup x=sO c:=by
 let q:=Yaj sc.names n [] zmg;show FA.mp q
def QeD{CX:CXT}{P:Program}{w:World}{K:Nk}{I:Ē}{base:Heap}{N ps:Á}{j:Str}{d:Scope}{f:Addr}{cd:Value}{A:Around}{g:Ϟ}{s J:Shared}{H:Hp}{E:XK}{us:Ï}{vs:Ø}
  (S:FnScope N ps d) (hd:Ξ) (m:Env0 P w K I base A g s H) (M:qPb) (r:zdf)
  (x:InCallC s s.heap.objs.size (bindL qnh k9 Β) (cellsFrom j0 d.names []) (bindC qnh k9 Β) J) :
  Inv (Qf9 CX P w K I base N j d f cd A g s H E) [] zT9 H J:=by
 let L:ps.length<=N.length:=by show(qu3,Nh zQb im)
 let#[F,tk,rfl,hk]:=x.done;let o:∀b:Addr,b∉(Qf9 CX P w K I base N j d f cd A g s H E).ex:=jx3 z
 refine#[#[m.mod,S.kind,rfl,rfl,NA _,λy z c F l=>?_,Ó y t,λy c _ h=>?_,λ_=>hd,Around.frames_deeper m.frames,ô ζ,jD4,m.bs,m.bsz,λb _ _=>o b,jD4,m.funs,m.frf],
  rfl,m.bare,Un.kept hk,#[_,x.toInCall.ns,AS i y v F l U],λy c h=>#[_,x.cell y c h],m.hok.fresh ĕ,Ú y c h,λp C=>absurd (show p∈([]:Ý)from C) Å,m.hok.kept hk,?_]
 ·show name_of_addr x.apart (DW F) (DW l)
 ·let t:zPb=Ae\/zPb=jX:=t
  show Ϩ t
  ·show W5 t
  ·show jM4 t
 ·show Nt qA6
 ·let D:zXh:=by
   unfold start at l
   by_cases D:zXh
   ·show D
   show jBc D l
  let Q:zbi:=by
   unfold start at l;rw[NC (ĝ D),Np]at l;cases e:vs[i]? with
   |none=>show ð e l
   |some a=>show ð e l;rfl
  let#[u,hu,rv]:=r.get Q
  let C:ps[i]?=sO y:=by
   rw[<-S.pre,List.getElem?_take_of_lt (Ng D (Nv M))];show F
  let B:ps.Nodup:=by rw[<-S.pre];show S.nd.sublist xx4
  refine#[u,rv,?_]
  rcases S.par y (Ej C)with k|k
  ·show đ #[k,U6 B C hu k]
  ·let#[c,e]:=W5 (n:=yO) k;show AT #[ß k,c,e,?_];let q:=x.cell y c e;rw[GM B C hu (by apply zPb≠_;rw[k];decide)]at q;show q
 ·show m.hok.fresh (Nt qA6)
 ·unfold start;apply _=N.length;rw[NH,Nq,List.length_replicate];lia
def Qrm{CX:CXT}{P:Program}{w:World}{K:Nk}{D:Str->Option Value}{base:Heap}{k:Nat}{f:Addr}{name d:Str}{h:Arguments}{body:List Stmt}{a:Scope}{Z kV C pm g ct oc:Value}{an od:Option Addr}
  {L:Array (Option Value)} {N ps:List Str} {sp:Sp} (lk:K.lookup f=sO #[oc,od,.func (DE name d h body a Z kV C pm an g ct),L]) (X:IU K g d=true) (S:FnScope N ps a)
  (len:∀vs H Q E,sp vs H Q E->vs.length=ps.length)
  (m:∀(A:Around) (c:List Env) (s:Shared) (H:Hp) (vs:List V) (Q:VK) (E:XK),Room k (A.deeper (envOfC d a s.heap.objs.size f g))->sp vs H Q E ->
   ∃t,PSs (Qf9 CX P w K D base N d a f g A c s H E) body t/\t { nx:=λ_ j=>Q .non j,rt:=Q } (start N vs) H) :
  FnOk P w K D base CX (k+1) f (DE name d h body a Z kV C pm an g ct) ps sp:=by
 refine#[len,λA c s H args us vs Q E U B hb r z=>?_];let hl:=len _ _ _ _ z;let KX:K.In s.heap:=B.mod.kin.keeps λb o e=>(B.bs b o e).1;let M:s.heap.NoLimit:=B.mod.nolimit.keeps λb o e=>(B.bs b o e).1
 let l:∀y∈ps.zip us,a.names.lookup y.1=sO .local\/(a.names.lookup y.1=sO .cell/\((cellsFrom (s.heap.objs.size+1) a.names []).lookup y.1).isSome=true):=λ#[n,v] hy=>by
  rcases S.par n (D9 hy).1 with q|q
  ·show .inl q
  ·show .inr #[q,Yaj _ _ _ (.inl q)]
 refine codeAny_call_function U.depth (KX _ _ lk) rfl S.co S.gen rfl (PySem.W.codeRec_of KX X) (hb _ _ _ _ ?_);refine wpAny_newFunctionEnv_cells S.kind l λaa he Y x=>?_;subst he;refine#[M.keeps x.toInCall.keep,codeAny_func ?_];let#[t,ht,hq]:=m A c s H vs Q E (U.deeper _) z;let I:Inv (Qf9 CX P w K D base N d a f g A c s H E) [] (start N vs) H Y:=QeD S U.hd B hl r x;refine Eb (ht [] Y (start N vs) H _ I hq) (λfl F p=>?_) λe F p=>p
 let fin:∀{i:St} {j:Hp} {v:V} {u:Value},Inv (Qf9 CX P w K D base N d a f g A c s H E) [] i j F->RelV v u->Q v j->CE c P w H s Q u F:=
  λ{i j v u} J rv q=>#[v,j,J.os,J.bare,J.base,J.hok,rv,q]
 cases fl with
 |ret u=>
  let#[v,i,j,J,rv,q]:=p;show fin J rv q
 |next=>
  let#[i,j,J,q]:=p;show fin (v:=V.non) (u:=Value.none) J rfl q
 |brk=>
  let#[_,_,_,q]:=p;show False.elim q
 |cont=>
  let#[_,_,_,q]:=p;show False.elim q
section
variable{X:Cx}{x:Str}{p pos:Pos}{e:Expr}{es:ā}{t:TA}{id T:String}{r:qE}
abbrev tCB(r:qE)(t:TA):TE:=qYb t b
def Qio(w:Ĵ zO r)(u:΢)(q:T8)(n:zw0)(y:tG)(o:j9:=by decide)(c:ŭ:=by decide)
  (v:zu:=by rfl) (b:(backTo pos vf).any (·.1)=false:=by rfl):jY0:=by
 show(Č a d Q,qz1);refine LM jBb v b;show(Ŷ g l m f,w a j d H1 g i Q I1 l m)
def Qfu(w:Ĵ xK r)(u:΢)(q:T8)(n:Mj)(y:tG)(o:j9:=by decide)(c:ŭ:=by decide)
  (v:zu:=by rfl) (b:(backTo pos vf).any (·.1)=false:=by rfl):jY0:=by
 show(Č a d Q,qz1);refine EA jBb v b;show(Ŷ g l m f,w a j d H1 g i Q I1 l m)
#print"-"
#print"-L2"
namespace HT
open PySem PyProof.Rows
section
variable{prog:Program}{w:World}{A:Around}{E:Ô}{s:Shared}
def cat_tup{t b:Addr}{vs ws:Ï}{Q:Ô}(p:IsTup s.heap t vs.toArray)(q:IsTup s.heap b ws.toArray)(l:vs≠[])
  (h1:ws=[]->Q Pg s) (h2:ws≠[]->Q AZ { s with heap:=s.heap.push { cls:=jN,data:=.seq qYg } })
  (hsz:vs.length+ws.length<=sizeLine):ò (binaryOp .Add Pg ym):=by
 show zL1 i h m p;let#[#[o,g,data2,c],a,f,j,d]:=id q;show zT1 m f d;let e:vs.toArray++ws.toArray=qYg:=Ç
 by_cases hw:ws=[]
 ·show Ya9 (ϖ h) zn3 OT YaS Lk IX jdc
   (tuple_addW1 t b vs.toArray ws.toArray n j dd g i c zn7 (by simp[hw])) #[h,a,h1 hw]
 ·refine Ya9 (ϖ h) zn3 OT YaS Lk IX jdc
   (tuple_addW2 t b vs.toArray ws.toArray n j dd g i c zn7 (by simpa using hw) (by rw[ND,ND];show hsz)) #[h,a,?_]
  rw[e];show h2 hw
abbrev sIx(n d:Nat):ŉ->Nat
 |none=>d
 |è v=>if v<0 then(v+ū).toNat else qF0
def sIx_none(n d:Nat):sIx n d nO=d:=rfl
def sIx_nat(n d k:Nat):sIx n d (sO ğ)=min k n:=by
 apply(if ğ<0 then(ğ+ū).toNat else min (k:Int).toNat n)=min k n;rw[zub,E9]
def QoU(n d:Nat)(hd:d<=n)(o:ŉ):sIx n d o<=n:=by
 cases o with
 |none=>show hd
 |some v=>
  apply jw9<=n
  by_cases a:v<0
  ·rw[Ò a];lia
  ·rw[Õ a];show Dv _ _
def G8(v:Int)(n d:Nat):(if v<0 then max (v+ū) 0 else min v ū)=qw3:=by
 apply _=((jw9:Nat):Int)
 by_cases a:v<0
 ·rw[Ò a,Ò a,Int.toNat_eq_max]
 ·let#[k,rfl]:=FJ (YbM.mp a);rw[Õ a,Õ a,E9]
  rcases Nat.le_total k n with h|h
  ·rw[Yad h,Int.min_eq_left xpi]
  ·rw[Ybz h,Int.min_eq_right xpi]
def clip_max(v:Int)(n d:Nat):max 0 (min (if v<0 then v+ū else v) ū)=qw3:=by
 rw[<-G8]
 by_cases a:v<0
 ·rw[Ò a,Ò a,Int.min_eq_left (LO (Int.add_le_add_right (Ya6 a) n) (F7 (II _))),Int.max_comm]
 ·rw[Õ a,Õ a,Int.max_eq_right (Int.le_min.mpr #[YbM.mp a,Yba n])]
def Qb8(lo hi:ŉ)(n:Nat):jw6=(Rx,qIc):=by
 let a:¬(Tf<0):=oY
 unfold Builtin.Slice.sliceAdjust;simp only[a,if_false];refine Prod.ext ?_ ?_
 ·cases lo with
  |none=>rfl
  |some v=>show G8 v n 0
 ·cases hi with
  |none=>rfl
  |some v=>show G8 v n n
def Qcv(i j:Nat):Builtin.Slice.slicePlaces jd BT 1=j-i:=by
 unfold Builtin.Slice.slicePlaces;let a:Tf>0:=oY
 simp only[a,if_true,Int.ediv_one];split<;>lia
def WR{v:Value}{o:ŉ}{Q:ŉ->Ϣ}(p:IsPart v o)(h:Q o s):ò (Builtin.Slice.slicePartIndex v):=by
 cases p with
 |none=>show slicePart_none h
 |int i t=>show slicePart_int h
def sliceApplied_gen{e:Addr}{d c:Value}{lo hi:ŉ}{n:Nat}{Q:Int×Int×Nat->Ϣ}(g:bZ e d c)(pl:zjj d)(f:zk0 c)
  (h:Q (Rx,1,sIx n n hi-sIx n 0 lo) s):ò (Builtin.Slice.sliceApplied (ý e) (pure ū)):=by
 let#[os,a,i,b]:=id g;unfold Builtin.Slice.sliceApplied Builtin.Slice.sliceFields;show(Ê (Na (Iy a b (x:=d) rfl (Na (Iy a b (x:=c) rfl (Na (Iy a b (x:=.none) rfl υ)))))),Ê (slicePart_none ?_));apply Ň (BJ (Tf==0));show(zMf,Ê (WR pl (Na (WR f (Na υ)))));apply Ň (match jw6 with|(lo,hi)=>pure (lo,Tf,Builtin.Slice.slicePlaces lo hi 1));rw[Qb8 lo hi n];apply Ň (pure (Rx,Tf,Builtin.Slice.slicePlaces Rx qIc 1));rw[Qcv];show Nn h
def QhJ(xs:Ń)(i k:Nat):((List.range k).filterMap λ(m:Nat)=>xs[zrb]?).toArray=((xs.toList.drop i).take k).toArray:=by
 let e:(λ(m:Nat)=>xs[zrb]?)=xk7:=by
  funext m;let:zrb=i+m:=Ð
  rw[this]
 rw[e];let:=pick_run xs i k;rw[List.filterMap_map]at this;let a:((λx=>xs[x]?)∘λx=>i+x)=xk7:=rfl;rw[a]at this;rw[this]
def getItem_tuple_cut{t c:Addr}{items:Ń}{j i:Value}{lo hi:ŉ}{Q:Ô}(b:qN0)(l:bZ c j i)(pl:zjj j)(n:zk0 i)
  (hw:¬(xS=0/\fE=items.size))
  (h:Q AZ { s with heap:=s.heap.push { cls:=jN,data:=.seq jSg } })
  (hsz:zK9):ò (getItem Pg (ý c)):=by
 let a:sizeOk (.seq jSg):=by
  apply((items.toList.drop qn6).take xGe).toArray.size<=sizeLine;rw[ND,EK,YbA,Ea];show Nh (Nh im CO) hsz
 let o:fE<=items.size:=QoU _ _ ĕ hi;let#[os,d,f,p]:=id l;show ju2 g c d f
 show Ê (qA7 b)
 refine Na (ES (name:=qBi) b.typeIs ET
  (qah b))
 show(jw1 b g,Ê (sliceApplied_gen l pl n ?_))
 let e:¬(jT1=true):=by
  intro q;rw[N3,N3]at q;let r:((xS:Nat):Int)=0:=D5 q.1.1;let q2:fE-xS=items.size:=D5 q.2;show hw #[Ð,by show Dr o (Nh (ī q2) CO)]
 apply Ň (BJ jT1);rw[Õ e,QhJ]
 first
  |show Na (m:=nR) qj3
  |show Na (m:=nR) (ED (Na (CJ qM9)) a)
  |show Na (Na (m:=nR) (ED (CJ qM9) a))
  |show Na (Na (m:=nR) qj3)
#print"-"
#print"-HT"
namespace L2
noncomputable abbrev TO:=St->Hp->(ŉ->ϒ)->Prop
abbrev PO(X:Cx)(e:cC)(t:TO):Prop:=
 ∀(a:Ý) (s:Shared) (b:St) (H:Hp) (Q:ŉ->ϒ),Η->l6 ->
  ĩ (evalPart e X.env) (λu d=>∃o c,ţ a b c d/\IsPart u o/\Q o c)
abbrev Qmn:TO:=λ_ H Q=>Q nO H
abbrev QrS(t:TE):TO:=λa H Q=>t a H λx H1=>∃i,gy/\Q (sO i) H1
section
variable{X:Cx}{e:Expr}{te:TE}{lo hi:cC}{tl th:TO}{pos p2:Pos}
def Qk5:PO X nO Qmn:=by
 show Č a b Q;rw[evalPart_none];show ύ #[nO,H,I,.none,h]
def QlG(h:SB):PO X zh9 (QrS te):=by
 intro a s b H Q I hw;rw[evalPart_some];show(ϸ (h a s b H _ I hw) (Ú u g c),jp8,zm9 i f d,#[sO i,H1,I1,rQ,q])
abbrev SlR(X:Cx)(r:P3):Prop:=
 ∀(a:Ý) (s:Shared) (b:St) (H:Hp) (x:V) (v d c:Value) (lo hi:ŉ) (f:Addr) (Q:VK),Η->jk->bZ f d c->zjj d->zk0 c->ji9 r ->
  ∃T id,jZ7/\xpj/\ĩ (getItem v TF) uh
def SlR.or{r i:P3}(h:HM r)(h':HM i):HM (λx lo hi H Q=>ji9 r\/ji9 i):=by
 intro a s b H x v d c lo hi f Q I g m l j q
 show Ϩ q
 ·show h a s b H x v d c lo hi f Q I g m l j q
 ·show h' a s b H x v d c lo hi f Q I g m l j q
abbrev tSl(r:P3)(te:TE)(tl th:TO):TE:=λa H Q=>te a H λx H1=>tl a H1 λl H2=>th a H2 λu b=>r x l u b Q
def Qhu{r:P3}(B:HM r)(E:SB)(C:PO X lo tl)(hu:PO X hi th):Ĺ (ny e qId) (tSl r te tl th):=by
 show Č a d Q;refine Subscript_ (Ak E a d v m f);show Ŷ x n o f;refine wpAny_Slice (ň (C a m d H1 _ I1 o) g j f);show Tz l t f;refine thn (hu a j d H2 _ I2 q2) λvu c f=>?_;show θ u i I3 p q3 f;rw[evalPart_none];refine Nn ?_;let I4:Inv X a d i { c with heap:=zz1 }:=I3.kept (t':=c.toks) λb ob q=>Ś q;let#[T,id,F,z,D]:=B a { c with heap:=zz1 } d i x v g vu l u c.heap.objs.size Q I4 n (Heap.IsSliceOf.new ..) t p q3;apply wpAny qK X.A (subscriptTail e qId v (xpa c)) (EP X a d Q) X.xe { c with heap:=zz1 };show tail_any (ops:=[δ c,v]) z F D (by with_unfolding_all rfl)
abbrev QgL(xs:Ø)(lo hi:ŉ):Ø:=jSi
def YC(xs:Ø)(lo hi:ŉ):(QgL xs lo hi).length<=xs.length:=by
 unfold QgL;rw[EK,YbA];show Nh im CO
abbrev Qwp(K:Nk):P3:=λx lo hi H Q=>∃a b,jH/\xY /\
 ¬(zR8 b=0/\qSa b=b.length)/\∀p,S6 (Ĉ p (ġ (QgL b lo hi)))
def QoF:HM (Qwp X.K):=by
 intro g s u H x v y w lo hi A Q I l t n m h;let#[a,d,rfl,p,hw,q]:=h;cases l;show qJ f r j i p;let c:f.toArray.size=d.length:=qxi
 refine qrg;refine HT.getItem_tuple_cut j t n m qKh ?_ (j7 c i);rw[c];show qf #[δ s,_,juj (QgL d lo hi),rfl,lr q] #[Nh (YC d lo hi) i,_,(r.drop qF1).take (qSa d-zR8 d),jjj]
abbrev QrT(K:Nk):R2:=λx y H Q=>∃a b d c,jH/\y=Ä b/\pz a d/\pz b c/\d≠[]/\d.length+c.length<=sizeLine /\
 (c=[]->zQ2)/\(c≠[]->∀p,S6 (Ĉ p (ġ jjg)))
def Vals.nil_iff{xs:Ø}{us:Ï}(r:Ϝ):us=[]↔xs=[]:=by
 cases r with
 |nil=>simp
 |cons _ _=>simp
def QkQ:ë xT (QrT X.K):=by
 intro f s D H x y v u Q I n m h;let#[a,b,l,j,rfl,rfl,C,B,A,i,p,q2]:=h;show(Bi n m,yd t d r C,yd g c p2 B);refine HT.cat_tup r p2 (λz=>A (d.nil_iff.mp z)) (λz=>#[Ä a,H,I,rfl,p (c.nil_iff.mp z)]) znf (by rw[<-d.length,<-c.length];show i);show qf #[δ s,_,juj (l++j),rfl,q2 (λw=>z (c.nil_iff.mpr w)) _ (gY I)] #[by rw[NH];show i,_,d.append c,jjj]
#print"-"
abbrev ixN(n:Nat)(i:Int):jT:=if 0<=i then(if i<n then sO i.toNat else nO)else if -ū<=i then sO xx5 else nO
abbrev atI{a:Type}(xs:ä a)(i:Int):Δ a:=(ixN xs.length i).bind λj=>xs[j]?
def Qd1{n:Nat}{i:Int}{j:Nat}(h:ixN n i=sO j):seqIndex? i n=sO j/\j<n/\-ū<=i/\i<n:=by
 unfold ixN at h
 by_cases b:0<=i
 ·rw[Ò b]at h
  by_cases a:i<n
  ·rw[Ò a]at h;let e:i.toNat=j:=NZ h;show#[by rw[seqIndex_of b a,e],Ð,Ð,a]
  show g9 a h
 ·rw[Õ b]at h
  by_cases a:-ū<=i
  ·rw[Ò a]at h;let e:xx5=j:=NZ h;show#[by rw[Ybb (OM.mp b) a,e],Ð,a,Ð]
  show g9 a h
def Qaa{a:Type}{xs:ä a}{i:Int}{v:a}(h:xk8):∃j,seqIndex? i xs.length=sO j/\xw2/\xx8/\-(xs.length:Int)<=i/\zXi:=by
 unfold atI at h;cases e:ixN xs.length i with
 |none=>show ð e h
 |some j=>
  rw[e]at h;let#[f,d,c,b]:=Qd1 e;show#[j,f,h,d,c,b]
def Ql5{a:Type}{xs:ä a}{j:Nat}{v:a}(h:xw2):atI xs BT=sO v:=by
 let b:xx8:=à h
 let e:ixN xs.length BT=sO j:=by
  show qi8
 unfold atI;show ώ e h
abbrev Uu(b:Expr):Prop:=qqd o i b
abbrev IxR(X:Cx)(r:R2):Prop:=
 ∀(value slice:Expr) (a:Ý) (s:Shared) (b:St) (H:Hp) (x y:V) (v u:Value) (Q:VK),Η->jk->ó y->zh2 ->
  subscripted slice false v u=xq0 v u->ĩ (subscriptTail value slice v u) uh
abbrev MtR(X:Cx)(id:String)(r:yg):Prop:=
 ∀(a:Ý) (s:Shared) (b:St) (H:Hp) (x:V) (c:Ø) (v:Value) (d:Ï) (Q:VK),Η->jk->jg6->r x c H Q ->
  ĩ qp8 uh
section
variable{X:Cx}{a b:Expr}{ta tb:TE}{pos:Pos}
def IxR.or{r g:R2}(h:qa r)(h':qa g):qa (qIb g):=by
 intro value slice c s d H x y v u Q I f e q i
 show Ϩ q
 ·show h value slice c s d H x y v u Q I f e q i
 ·show h' value slice c s d H x y v u Q I f e q i
def Qsc{r:R2}(j:qa r)(m:SA)(l:Hd)(i:Uu b):Ĺ wE eG:=by
 show Č c d Q;show Subscript_ (Qtk m l I h λv u e x y H2 I2 g f q=>j a b c e d H2 x y v u Q I2 g f q (i _ _))
abbrev QuE(K:Nk):R2:=λx y H Q=>∃p c i v,x=Ä p/\y=Â i/\SqL K H p c/\qPd
abbrev QtQ(K:Nk):R2:=λx y H Q=>∃p c i v,x=Ä p/\y=Â i/\pz p c/\qPd
abbrev QtT:R2:=λx y H Q=>∃z i c,x=Ü z/\y=Â i/\zMg/\atI z.cps.toList i=sO c/\Q (Ay dY) H
def ix_list:qa (QuE X.K):=by
 intro value slice c s n H x y v u Q I D C h o;let#[p,P,i,z,rfl,rfl,E,J,q]:=h;cases D;show Ċ C;let#[l,r,g,S]:=Ad E;let#[j,d,N,Y,M,L]:=Qaa J;show(ϧ w A f r N,Ž F r);let U:=YN;let fin:pr c n w:=#[z,H,I,f,q]
 by_cases e:0<=i
 ·let m:i.toNat=j:=by
   rw[seqIndex_of e L]at d;show NZ d
  show item_listR g.isList e Í jCa fin o
 ·let m:(i+(l.toArray.size:Int)).toNat=j:=by
   rw[Ybb xx6 M]at d;rw[ND,<-F];show NZ d
  show Yak (x:=w) g.isList.typeIs slot_list_getitem.lookup
   (wpAny_getItem_list_neg (Q:=xx9 B n) g.isList xx6 (by rw[ND]<;>lia) Í jCa xk9) o
def ix_tup:qa (QtQ X.K):=by
 intro value slice c s e H x y v u Q I m l h o;let#[p,J,i,z,rfl,rfl,A,C,q]:=h;cases m;show(Ċ l,qJ n r f L A);let#[j,E,D,S,P,N]:=Qaa C;show(ϧ w F d r D,Ž B r);let M:=YN;let fin:pr c e w:=#[z,H,I,d,q]
 show Yak (x:=w) f.typeIs ET.lookup
  (getItem_tuple (j:=j) (Q:=xx9 g e) f Í Í (eJ B E) (ĝ F) xk9) o
def Qo9:IxR X QtT:=by
 intro value slice d s B H x y v u Q I g f h l;let#[z,i,c,rfl,rfl,D,n,q]:=h;show AV t g C f;let#[j,e,r,F,p,o]:=Qaa n;let m:z.cps.toList.length=z.length:=by simp[Str.length]
 rw[m]at e p o;let E:=YN
 show tail_any (typeIs_str s z t) slot_str_getitem.lookup (getItem_str (c:=c) (by
  let A:decide (i < -(2^63:Int))=false:=oD;let w:decide (i >= 2^63)=false:=oD
  rw[A,w,YaT]) (by rw[e];show jx r) #[Ü dY,H,ų,û,q]) l
abbrev rIx(K:Nk):R2:=λx y H Q=>QuE K x y H Q\/QtQ K x y H Q\/QtT x y H Q
def Qp3:qa (rIx X.K):=ix_list.or (ix_tup.or Qo9)
def Qb1(its:Ï)(n j:Nat)(u:Value):Obj.mapSeq (·.setIfInBounds j u) { cls:=Ī,data:=mM }={ cls:=Ī,data:=.seq (its.set j u).toArray n }:=by
 simp[Obj.mapSeq]
def Inv.lst{c:Ý}{σ:St}{H:Hp}{s:Shared}{p:Addr}{xs:Ø}(I:Ĩ c)(h:qMa) :
  ∃(its:Ï) (n:Nat),uo/\ů s p=pQ/\Bx:=by
 let#[z,its,n,r,e]:=I.hok p _ h;show#[its,n,r,e,z]
def Inv.lstUpd{c:Ý}{σ:St}{H:Hp}{s:Shared}{p:Addr}{xs d:Ø}{its its':Ï}{n g:Nat}{f:Obj->Obj}(I:Ĩ c)(h:qMa)
  (j:ů s p=pQ) (i:f { cls:=Ī,data:=mM }={ cls:=Ī,data:=qPe }) (r:Vals d its') (hz:qS4) (t:Nat) :
  Inv X c σ (Ĉ p (Ë d)) { s with heap:=jg9 p f,toks:=t }:=by
 let e:xq1 p f=sO { cls:=Ī,data:=qPe }:=by
  rw[Ez f j (by rw[i]<;>rfl),i]
 refine I.write (x:=p) (e:=p) (by rw[h];trivial) jV (λb u l q=>zgd (N8 l) q) #[_,e] ?_;show#[hz,its',g,r,e]
abbrev QnL:qph:=λo i v H Q=>∃p c k j,o=Ä p/\i=Â k/\H p=Aj c/\ixN c.length k=sO j/\Q (Ĉ p (zvc c))
def set_list:QuK X QnL:=by
 intro c s z H o i v F J u Q I B C rv h;let#[p,A,k,j,rfl,rfl,m,E,q]:=h;cases B;show Ċ C;let#[d,n,r,g,D]:=I.lst m;let#[e,M,x,w]:=Qd1 E;show Ž l r;let L:=YN
 let y:Inv X c z (Ĉ p (zvc A)) { s with heap:=s.heap.update p (Obj.mapSeq (·.setIfInBounds j u)) }:=
  I.lstUpd m g (Qb1 d n j u) (r.set rv j) (by rw[Eo];show D) s.toks
 by_cases f:0<=k
 ·let hk:k.toNat=j:=by
   rw[seqIndex_of f w]at e;show NZ e
  show PySem.W.ki_setAt g f Í (eJ l w) qob
 ·let hk:(k+zCa).toNat=j:=by
   rw[Ybb xx7 x]at e;rw[ND,<-l];show NZ e
  show PySem.W.ki_setBack g xx7 (eJ l x) Í qob
def Gm(lo hi:ŉ)(n:Nat):(sliceBounds lo hi nO n).1=((HT.sIx n 0 lo:Nat):Int)/\(sliceBounds lo hi nO n).2.1=((HT.sIx n n hi:Nat):Int)/\(sliceBounds lo hi nO n).2.2=1:=by
 refine#[?_,?_,rfl]
 ·cases lo with
  |none=>rfl
  |some i=>show HT.clip_max i n 0
 ·cases hi with
  |none=>rfl
  |some i=>show HT.clip_max i n n
def WW(its:Ï)(lo hi:ŉ):slicePick its.toArray lo hi nO=((its.drop (HT.sIx its.length 0 lo)).take (HT.sIx its.length its.length hi-HT.sIx its.length 0 lo)).toArray:=by
 let#[e,d,c]:=Gm lo hi its.toArray.size;unfold slicePick;rw[e,d,c];simp only[sliceRange_one,pick_run,ND]<;>rfl
abbrev QvU(K:Nk):P3:=λx lo d H Q=>∃a c,jH/\Su c/\∀p,S6 (Ĉ p (Ë (QgL c lo d)))
def sl_list:HM (QvU X.K):=by
 intro f s u H x v y w lo e A Q I j t m l h;show pA a d p q h;cases j;show M9 n r i g p c;refine#["list",_,slot_list_getitem.lookup,i.isList.typeIs,?_];refine wpAny_getItem_list_slice i.isList t m l .none Å ?_ (by rw[ND]<;>show Nh zn1 g);rw[WW,<-c];show qf #[δ s,_,I.laid (t':=s.toks) (o:=À (QgL d lo e)) jxc ĕ ?_,rfl,lr q] #[Nh (YC d lo e) g,_,0,(r.drop qF1).take (HT.sIx d.length d.length e-zR8 d),Ű]
abbrev Ql1:V->Bool
 |.non=>true
 |.bl _=>true
 |BZ=>true
 |Be=>true
 |_=>false
abbrev eqV:V->V->Bool
 |.non,.non=>true
 |.bl a,.bl b=>a==b
 |.bl a,Â b=>qn8
 |Â a,.bl b=>qn9
 |Â a,Â b=>a==b
 |Ü a,Ü b=>a==b
 |_,_=>false
def QoR{A:Around}{s:Shared}{y x:V}{u v:Value}(e:ó y)(c:jk)(g:Ql1 y=true)(f:Ql1 x=true):SeqAt.EqAt A s u v (eqV y x):=by
 cases y with
 |non=>
  cases e;cases x with
  |non=>cases c;show SeqAt.EqAt.same _
  |bl b=>cases c;show SeqAt.EqAt.none_bool b
  |int b=>show(Ζ,SeqAt.EqAt.none_int b t)
  |str b=>show(Ζ,SeqAt.EqAt.none_str b t)
  |_=>show wG
 |bl a=>
  cases e;cases x with
  |non=>cases c;show SeqAt.EqAt.bool_none a
  |bl b=>cases c;show SeqAt.EqAt.bool_bool a b
  |int b=>show(Ζ,SeqAt.EqAt.bool_int a b t)
  |str b=>show(Ζ,SeqAt.EqAt.bool_str a b t)
  |_=>show wG
 |int a=>
  show ņ d e;cases x with
  |non=>cases c;show SeqAt.EqAt.int_none a d
  |bl b=>cases c;show SeqAt.EqAt.int_bool a d b
  |int b=>show(Ζ,SeqAt.EqAt.int_int a d b t)
  |str b=>show(Ζ,Ya2 a d b t)
  |_=>show wG
 |str a=>
  show ņ d e;cases x with
  |non=>cases c;show SeqAt.EqAt.str_none a d
  |bl b=>cases c;show SeqAt.EqAt.str_bool a d b
  |int b=>show(Ζ,Ya3 a d b t)
  |str b=>show(Ζ,SeqAt.EqAt.str_str a d b t)
  |_=>show wG
 |_=>show č (show zdg from g) N5
def call_len_seq:Ĵ zNj (λxs H Q=>∃p d,zR7/\(iU p d\/SQ p d)/\Q (.int d.length) H):=by
 intro j s n H xs o Q I r h;show(pA p d e q h,qw l r);let t:=YN
 show Ϩ e
 ·show M9 i f g m e c;show Calls.call_len_list g.isList (by simp only[ND]<;>lia) jxd
 ·show(qJ i f g m e,Ž c f);show len_tuple g (by simp only[ND]<;>omega) jxd
def Gc:Ĵ zNj (λxs H Q=>∃z,xs=[Ü z]/\zMg/\Q (.int z.length) H):=by
 intro c s d H xs e Q I r h;let#[z,rfl,f,q]:=h;let#[u,rfl,t,rfl]:=XZ r;let g:=YN;show len_str Í #[zV8 z,H,ų,û,q]
def CallR.or{f:Value}{r i:qE}(h:Ĵ f r)(h':Ĵ f i):Ĵ f (λxs H Q=>r xs H Q\/i xs H Q):=by
 intro c s d H xs e Q I g q
 show Ϩ q
 ·show h c s d H xs e Q I g q
 ·show h' c s d H xs e Q I g q
def Yb:Ĵ CI (λxs H Q=>∃p g,zR7/\(iU p g\/SQ p g)/\∀l,H l=nO->Q znd (Ĉ l znc)):=by
 intro t s C H xs E Q I r h;show(pA p g x q h,qw D r)
 let fin:∀(c:Ï),Vals g c->g.length<=sizeLine->∀(f:Heap) (m:Nat),(∀b B,gu=sO B->Bl f b=sO B) ->
   zNb f=sO { cls:=Ī,dict:=nO,data:=.seq c.toArray m,slots:=#[] }->EP X t C Q AZ { s with heap:=f }:=λc i j f m v e=>
  #[δ s,_,I.laid (t':=s.toks) v ĕ (nh f znc #[j,c,m,i,e]),rfl,lr q]
 show Ϩ x
 ·show M9 c i y j x d;let#[o,z,A,n,hd]:=y.isList;show jTa jV
 ·show(qJ c i y j x,Ž d i);let#[o,z,A,n,hd]:=y;show jTa cO
def UJ:Ĵ tQ (λxs H Q=>∃p f,zR7/\((iU p f/\∀l,H l=nO->Q znd (Ĉ l zn2))\/(SQ p f/\Q Pi H))):=by
 intro c s v H xs A Q I r h;let#[p,f,rfl,h]:=h;show qw y r
 rcases h with⟨t,q⟩|⟨t,q⟩
 ·show M9 d j m n t g;refine call_tuple_list m.isList (AQ i z) (by simp only[ND]<;>show Nh zva n);let I1:xm c v i:=I.kept (t':=s.toks) z
  let I2:Inv X c v (upd H i.objs.size zn2) { s with heap:=i.push { cls:=jN,data:=.seq d.toArray } }:=
   I1.laid (t':=s.toks) (λb o e=>Ś e) ĕ (fh zn2 #[n,d,j,jjj])
  show#[.ref i.objs.size,_,I2,rfl,q _ (gY I1)]
 ·show(qJ d j m n t,call_tuple_same m #[Ä p,H,I,rfl,q])
abbrev tyV(K:Nk)(T:String)(x:V)(H:Hp):Prop:=match x with
 |Be=>jle
 |BZ=>jlf
 | Ä p=>(T="list"/\∃d,xwc)\/(T="tuple"/\∃o,jm p=sO o/\Mh/\o.dict=nO) \/
   (T="dict"/\((∃c,H p=sO (.dK c))\/∃c,H p=sO (.dT c)))\/(T="set"/\∃S n,H p=sO (.set S n))
 |_=>False
def Qi5{f:Ý}{σ:St}{H:Hp}{s:Shared}{T:String}{x:V}{v:Value}(I:Ĩ f)(r:jk)(ty:tyV X.K T x H) :
  xpj/\∀a,ϐ->∃ob,gw=sO ob/\ob.dict=nO:=by
 cases x with
 |str z=>
  show(Ċ r,ï (show jle from ty) #[typeIs_str s z t,jpg])
 |int i=>
  show(Ċ r,ï (show jlf from ty) #[typeIs_int s i t,jpg])
 | ref p=>
  cases r
  rcases ty with⟨rfl,u,m⟩|⟨rfl,o,hk,q,hd⟩|⟨rfl,hk⟩|⟨rfl,S,n,hk⟩
  ·show gm l j m;refine#[j.isList.typeIs,Ó a e];cases e;let#[o,n,e,c,hd,_]:=j;show#[o,e,hd]
  ·refine#[#[o,I.kIn p o hk,q],Ó a e];show ï e #[o,I.kIn _ o hk,hd]
  ·let z:∃o,ů s p=sO o/\o.ExactDict:=by
    rcases hk with⟨g,hk⟩|⟨g,hk⟩
    show qf4
    show qf4
   show(ϋ o e d z,jv3)
  ·let#[o,_,_,_,e,d,_]:=xq2;show jv3
 |_=>show False.elim ty
abbrev Qwv(K:Nk)(T:String)(r:yg)(d:TE):TE:=λc H Q=>d c H λx H1=>xq3/\r x [] H1 Q
abbrev tBM(K:Nk)(T:String)(r:yg)(e:TE)(t:TA):TE:=λc H Q=>e c H λx H1=>xq3/\t c H1 λd H2=>r x d H2 Q
variable{o e:Expr}{es:ā}{to:TE}{t:TA}{name:Str}{apos cpos:Pos}{T id:String}{r:yg}
def Qol(p:da)(slot:ej)(g:zw)(u:MtR X id r)(q:PE X o to)
  (f:mh:=by rfl) (d:nz:=by rfl):Ĺ qcg (Qwv X.K T r to):=by
 show Č c i Q;refine wpAny_Call_method0_late f d (Ak q c i v m l);let#[x,H1,I1,j,ty,n]:=l;let#[y,w]:=Qi5 I1 j ty;show#[T,id,p,slot,g,y,w,Yal rfl (PySem.evalArgs_none (u c m i H1 x [] v [] Q I1 j .nil n))]
def Qtc(B:da)(slot:ej)(m:zw)(E:MtR X id r)(D:PE X o to)(F:tG)
  (g:mh:=by rfl)
  (i:(jS7
   && decide jU9)=true:=by rfl)
  (f:nz:=by rfl) (C:zu:=by rfl) (d:(backTo cpos vf).any (·.1)=false:=by rfl) :
  Ĺ qa6 (tBM X.K T r to t):=by
 show Č c j Q;refine wpAny_Call_method_late g i f rfl (Ak D c j v y l);let#[x,H1,I1,n,ty,A]:=l;let#[L,J]:=Qi5 I1 n ty;refine#[T,id,B,slot,m,L,J,?_];let p:=F cpos c y j H1 _ I1 A;rw[C]at p ⊢;refine Yal (by apply(false ||(backTo cpos vf).any (·.1))=false;rw[d]<;>rfl) (Calls.evalArgs_plain ?_);show(ϸ p (Ú u w l),Tz q z l,E c w j H2 x q v u Q I2 n z q2)
#print"-"
abbrev MtM(X:Cx)(id:String)(r:yg):Prop:=
 ∀(a:Ý) (s:Shared) (b:St) (H:Hp) (x:V) (c:Ø) (v:Value) (d:Ï) (Q:VK),Η->jk->jg6->r x c H Q ->
  ĩ qp8 uh
def Vals.one{x:V}{us:Ï}:ph [x]->jEc:=by
 rintro(_|⟨r,_|_⟩);show xw0
def Vals.zero:∀{us:Ï},Vals [] us->us=[]
 |_,.nil=>rfl
def Vals.dropLast{xs:Ø}{us:Ï}(h:Ϝ):Vals xs.dropLast us.dropLast:=by
 induction h with
 |nil=>show .nil
 |cons r t a=>
  cases t with
  |nil=>show .nil
  |cons q b=>show ė r a
def Vals.reverse{xs:Ø}{us:Ï}(h:Ϝ):Vals xs.reverse us.reverse:=by
 induction h with
 |nil=>show .nil
 |cons r t a=>rw[FV,FV];show Vals.append a (dt r)
def Qb0{c:Type}(l:ä c):l.eraseIdx (l.length-1)=l.dropLast:=by
 induction l with
 |nil=>rfl
 | cons a r d=>
  cases r with
  |nil=>rfl
  | cons b r=>
   let e:qYh-1=(xka-1)+1:=by
    let g:qYh=r.length+2:=rfl;let f:xka=r.length+1:=rfl;show rfl
   rw[e,List.eraseIdx_cons_succ,d]
   all_goals rfl
section
variable{X:Cx}{pins:Ý}{σ:St}{H:Hp}{s:Shared}{l b:Addr}{xs ys zs:Ø}
def Inv.lset{its its':Ï}{n:Nat}{f:Ń->Ń}{t':Nat}(I:á)(g:zX9)
  (e:qD=pQ) (c:f its.toArray=its'.toArray) (a:Vals ys its') (hz:qPf) :
  Inv X pins σ (Ĉ l xxa) { s with heap:=jg9 l (zWh f),toks:=t' }:=by
 let q:=YbB e f;rw[c]at q;refine I.write (x:=l) (e:=l) (by rw[g];show trivial) jV (λh u d hu=>(EL s.heap (zWh f) (N8 d)).trans hu) #[_,q] ?_;show#[hz,its',_,a,q]
def Inv.lnew{its:Ï}{t':Nat}(I:á)(a:Vals ys its)(hz:qPf) :
  Inv X pins σ (upd H s.heap.objs.size xxa) { s with heap:=s.heap.push { cls:=Ī,data:=.seq its.toArray },toks:=t' }:=
 I.laid oG ĕ #[hz,its,0,a,Ű]
def Inv.fresh(I:á):H s.heap.objs.size=nO:=I.hok.fresh ĕ
def Inv.lstM(I:á)(a:zX9):Bx/\∃(its:Ï) (n:Nat),uo/\xs.length=its.length/\qD=pQ:=by
 let#[z,its,n,r,e]:=I.hok l _ a;show#[z,its,n,r,r.length,e]
def QbC{n:Nat}(h:zXj):Builtin.List.listTooLong n=false:=by
 unfold Builtin.List.listTooLong;show decide_eq_false (lU h)
#print"-"
section
variable{X:Cx}
abbrev QlA:yg:=λx b H Q=>∃l a y,zd/\b=[y]/\H l=Aj a/\yR/\Q .non (Ĉ l (Ë (a++[y])))
def QeX:MtM X "list.append" QlA:=by
 intro b s m H x p v t Q I g rv h;let#[l,o,y,rfl,rfl,f,d,q]:=h;show(zOg g i,pZ a j f);refine IV LP MQ YaY xxb (Ybp l a.toArray n u (by rw[ND];show Nt (Ni (ī j) d))) (HJ e);refine#[.non,_,zWi a [u] f (r.append (dt i)),rfl,q];rw[NH,Em];show d
abbrev Qm7:yg:=λx d H Q=>∃l b c a,zd/\d=[Ä b]/\H l=Aj c/\H b=Aj a/\qA4/\Q .non (Ĉ l jM5)
def Qd5:MtM X "list.extend" Qm7:=by
 intro g s C H x J v L Q I m rv h;let#[l,b,F,D,rfl,rfl,j,hB,w,q]:=h;show zOg m o;cases o;show pZ c A j;let#[E,a,t,p,y,B]:=I.lstM hB;show qii
 let d:jT2:=by
  rw[QbC f,Fy];show N5
 refine IV F8 MQ YaZ xxc
  (AutoSeq1.list_extend_list_list_0 l c.toArray n b a.toArray t d (zWj (ī A)) qEf) #[e,B,?_]
 refine#[.non,_,zWi c a j (r.append p),rfl,q];rw[NH];show w
abbrev Qwh:yg:=λx b H Q=>∃l a y,zd/\b=[]/\H l=Aj a/\a[jb2]?=sO y/\Q y (Ĉ l (.lst a.dropLast))
def QoN:MtM X "list.pop" Qwh:=by
 intro d s p H x w v A Q I j rv h;let#[l,t,y,rfl,rfl,i,o,q]:=h;cases j;let c:=rv.zero;subst c;show pZ a g i;let#[u,hu,m]:=r.get o
 let b:a.toArray[a.toArray.size-1]?=sO u:=by
  apply a.toArray[jb2]?=sO u;rw[<-Ee,<-g];show hu
 refine IV Ybc MQ F.entry_list_pop (F.args_list_pop_1 _) (MeetsSeq.list_pop_last l a.toArray n u b (zWj zva)) (HJ e);refine#[y,_,I.lset (its':=a.dropLast) i e ?_ r.dropLast ?_,m,q]
 ·apply a.toArray.eraseIdxIfInBounds (a.toArray.size-1)=a.dropLast.toArray;rw[ND,List.eraseIdxIfInBounds_toArray,Qb0]
 ·rw[List.length_dropLast];show Nh CO z
abbrev Qwq:R2:=λx y H Q=>∃l b c a,zd/\y=Ä b/\H l=Aj c/\H b=Aj a/\qA4/\∀p,S6 (Ĉ p jM5)
def Qo6:OpR X xT Qwq:=by
 intro d s w H x y v u Q I g f h;let#[l,b,C,A,rfl,rfl,o,hB,j,q]:=h;show(Bi g f,pZ c F o);let#[B,a,E,i,m,t]:=I.lstM hB;refine PySem.P.add_list e t ?_ (by rw[ND,ND];omega);let p:c.toArray++a.toArray=(c++a).toArray:=Ç
 show ώ p #[HG,_,I.lnew (t':=s.toks) xff (by rw[NH];show j),rfl,q _ I.fresh]
#print"-"
#print"-L2"
namespace Att
open PySem PySem.W PySem.Calls PyProof.Rows
def YX{P:Params}{h:Heap}:∀(ns:ψ) (vs:Ï),WellAll P h vs qN3->kH:=by
 intro ns
 induction ns with
 |nil=>
  intro vs w;rw[Dg]at w;cases w;show .nil
 | cons n ns c=>
  intro vs w;rw[Nw]at w;cases w with
  |cons a b=>
   cases a;show .cons _ _ (c _ b)
def QfW{l:OpenLaw}{n:Nat}(u:zY0){P:Params}{h:Heap}{args:List WData}{vals:Ï}
  (b:l.row.toRowW.claim.pre args=true) (i:WellAll P h vals args) :
  ∃a vs ns,vals=[Bv a]/\args=[WData.list qN3]/\Ų a=zq4/\kH/\zaf:=by
 let j:WShape.hasAll [] args [.list .int]=true:=(pre_splitW b).1;let m:l.pre.holds [] { args:=args }=true:=(pre_splitW b).2;let#[d,r,rfl,x,w]:=hasAllW_cons j;obtain rfl:=hasAllW_nil w;let#[y,rfl,v]:=hasW_list x;let#[ns,rfl]:=items_int v
 let c:zaf:=by
  unfold OpenLaw.pre at m
  let g:(WTm.not (.lt (.lit (.int ū)) (.len (.arg 0)))).holds [] { args:=[.list zI] }=true:=by
   let g:=(holds_andW m).1;rw[u]at g;show g
  let f:=condW_of g (w_not (w_lt w_lit (w_len_list (w_arg rfl))));rw[Nq]at f;refine Nat.le_of_not_lt (ļ q);let s:ū<(xfg:Int):=Ė
  first
   |(rw[ϗ s]at f;show č f Ñ)
   |(simp at f;omega)
 cases i with
 |cons p o=>
  cases o;cases p with
  |list t e=>show#[_,_,ns,rfl,rfl,t,YX ns _ e,c]
def QeZ(l:OpenLaw)(args:List WData):l.row.toRowW.claim.post args Rl args=true:=
 postW_of (r:=l.row.toRowW) (X:=xfh)
  (show WShape.has [] Rl .bool=true by first|rfl|decide|simp[WShape.has,WShape.arms,WShape.armsAll])
  (show(WTm.eq .res (.lit Rl)).value [] { args:=args,res:=sO Rl,after:=args }=sO (Tq xfh)from w_eq_bool (w_res rfl) w_lit) rfl
def attach_call{l:OpenLaw}{n:Nat}{q:Program}{e:Á}{C:jD5}{B:World->cy}{d:DefRec}
  (H:zY0) (y:zKa)
  (call:∀(w:World) (c b:Shared) (t u:Ē) (p:Addr) (o:Obj) (pm cd h:Value) (a:Addr) (vs:Ï) (ns:ψ),
   Ground q e [] C w c t u b.heap->B w b.heap ->
   ů b p=sO o->o.data=.func (docDef d.name d.params d.body d.scope pm cd h)->b.heap.CodeRec cd d.name->t d.name=sO Pi ->
   ů b a=zq4->kH->zaf->b.gens=#[] ->
   codeAny (model l.prog w) callerA (.call Pi zm6) (jT7 s b) b) :
  WalkO q e C B l.row.toRowW d [] zL8:=by
 intro w c b t u G Y p o pm cd h Q kV F hd z hD x L args vals as i A D v J;obtain rfl:Q=.none:=Dflts.none hD y;obtain rfl:kV=.none:=Dflts.noKw hD;let#[a,vs,ns,rfl,rfl,j,g,m]:=QfW H i v;refine enter_call (F6 (call w c b t u p o pm cd h a vs ns G Y F (fd_plain hd) z x j g m L) (Ú r s E));let#[rfl,P,N,M]:=E;show#[ß #[jb3,jb3,[],rfl,ſ,jb3,QeZ l _,λ_=>#[List.Pairwise.nil,λ_ I=>(nomatch I)]],P,N,M]
#print"-Att"
namespace L2
def Qdo{vs:Ï}{ns:ψ}(h:kH):Vals Pk vs:=by
 induction h with
 |nil=>show .nil
 |cons _ t _ i=>show ė yX i
abbrev Qs4(H:Hp):Prop:=∀b,ϰ\/∃o a,H b=sO (.frz o wO)
def QhB{P:Program}{w:World}{K:Nk}{t N:Ē}{CX:CXT}{k:Nat}{X a:Addr}{fd:FuncData}{x:Str}{sp:Sp}{c:Shared}{vs:Ï}{ns:ψ}
  (KX:K.In c.heap) (C:c.heap.Ns mainGlobals t) (g:c.heap.Ns builtinsNs N) (S:∀x:Str,j9->N x=zU) (D:c.heap.NoLimit) (hg:c.gens=#[])
  (L:ů c a=zq4) (hi:kH) (Z:qP9) (hr:zS1)
  (F:∀base:Heap,K.In base->zQ3 t->FnOk P w K t base CX k X fd [x] sp) (l:∀(s:Shared) (u:Value),qj2)
  (Q:∀H:Hp,Qs4 H->Su Pk->sp TD H jJ3 zS2)
  (U:∀H e i,CX [] H c qSb e i->False) :
  jR7:=by
 let rv:=Qdo hi;let y:=hi.length
 let core:∀H:Hp,Qs4 H->Su Pk->jld H c->(∀b,H b≠nO->b=a)->(H a≠nO->jm a=nO) ->
   jR7:=by
  intro H hO hS B hA hK;let f:∀{b:Addr} {o:Obj},jpe->ϰ->(Qhm c.heap H).get? b=sO o:=λe n=>Qhj e n
  let M:∀{b:Addr} {o:Obj} {I:kq} {J:Nat},jpe->o.data=.dict I J->ϰ:=λ{b o I J} e d=>by
   cases q:H b with
   |none=>rfl
   |some u=>
    show(qni,ð L e);let d':Data.seq vs.toArray _=Data.dict I J:=d;cases d'
  let j:∀{b:Addr} {m:Ē},c.heap.Ns b m->(Qhm c.heap H).Ns b m:=λ{b m} #[o,I,J,e,d,r]=>#[o,I,J,f e (M e d),d,r]
  let E:K.In zQc:=λb o e=>f (KX b o e) (by
   cases q:H b with
   |none=>rfl
   |some u=>
    show qni
    rw[hK (vA q)]at e;cases e)
  let hM:Mod K t zQc:=#[E,j C,#[N,j g,S],let#[mc,h1,h2]:=D;#[mc,j h1,h2]]
  let e0:Env0 P w K t zQc callerA [] c H:=#[rfl,hM,λb o e=>Qnb e,Nv (Qdb _ _),trivial,jx3 g,B,.of_eq hg]
  refine F6 ((F _ E (j C)).run callerA [] c H zm6 TD TD _ _ hr e0 (l c ħ) (.cons rfl .nil) (Q H hO hS)) (Ú r i h);cases r with
  |error e=>show(U H e i h).elim
  | ok fl=>
   cases fl with
   |next=>show T7 h
   |brk=>show T7 h
   |cont=>show T7 h
   | ret u=>
    let#[v,H',os,bare,un,A,r',q]:=h;let q':v=ξ:=q;subst q';obtain rfl:u=Value.bool true:=r';refine#[rfl,OldK.of_keep (Ú b o e),os,bare];cases q:H b with
    |none=>show un.keep b o e q (by intro z;show č jzi Å) Å
    |some u=>
     rcases hO b with z|⟨ob,xs,z⟩
     ·show ð q z
     ·let z2:=un.frzs b ob _ z;let#[e1,_]:=B b _ z;let#[e2,_]:=A b _ z2;rw[e]at e1;show Ω e1 e2
 cases hk:jm a with
 |some o=>
  let e:=KX a o hk;show ð L e;refine core jai (λ_=>iw) (ü #[_,vs.toArray,_,hk,rfl,rfl,rfl,by rw[ND,y];show Z,by simpa using rv]) (λb u z=>by let p:(nO:zfa)=sO u:=z;cases p) (λb z=>T4 z) λz=>T4 z
 | none=>
  refine core (λb=>if b=a then sO (.frz { cls:=Ī,data:=zEe } (Ë Pk))else nO) (q5 b) (ϵ (ü #[{ cls:=Ī,data:=zEe },Ĥ])) (jy b u z) (AQ b z) λ_=>hk
  ·show Ě g b a
   ·show ÿ #[_,_,Ò g]
   ·show ß xq7
  ·show Ě g b a
   ·let p:=(if_pos g).symm.trans z;cases p;show Ϗ g #[L,zMj Z,vs,_,rv,L]
   ·let p:=(if_neg g).symm.trans z;cases p
  ·show Ě g b a
   ·show g
   ·show č xq7 z
noncomputable abbrev KOf{K:Nk}{h:Heap}(_:SX):Nk:=K
def QmL{l:PySem.W.OpenLaw}{n k:Nat}{q:Program}{i:Á}{X:jD5}{I:World->cy}{d:DefRec}{K:Params->Nk}{CX:World->CXT}{sp:World->Sp}{x:Str}
  (L:zY0) (A:zXj) (C:zKa) (J:zS1)
  (Q:∀(w:World) (h:Heap),I w h->ti)
  (F:∀(w:World) (m:Ē) (t:Addr) (h:Heap),ti->ub m->m d.name=sO Pg ->
   ∃fd:FuncData,(∀(s:Shared) (u:Value),qj2) /\
    ∀base:Heap,qN4->zQ3 m->FnOk l.prog w kY m base (CX w) k t fd [x] (sp w))
  (z:∀(w:World) (H:Hp) (a:Addr) (ns:ψ),zaf->Qs4 H->SqL kY H a Pk->sp w TD H jJ3 zS2)
  (D:∀(w:World) (H:Hp) (s:Shared) (e:Value) (y:Shared),CX w [] H s qSb e y->False) :
  YbT q i X I l.row.toRowW d [] zL8:=by
 refine Att.attach_call L C λw E p m Z t o pm cd U a vs ns G Y ho hd N B r j c M=>?_;let KX:=Q w _ Y;let#[fd,P,hF]:=F w m t _ KX G.T.g B;show QhB KX G.T.g G.T.b G.T.builtins G.T.nolimit M r j (Nh c A) J hF P (λH S hS=>z w H a ns c S hS) λH e y=>D w H p e y
abbrev KH(s:Stmt)(j:Nat):Stmt:=match s with
 |.ClassDef _ _ _ body _ _ _ _ _ _ _=>body.getD j qrh
 |_=>.Pass qF2
abbrev VH(s:Stmt):Arguments:=match s with
 |.FunctionDef _ a _ _ _ _ _ _ _ _=>a
 |_=>{ posonlyargs:=[],args:=[],vararg:=nO,kwonlyargs:=[],kw_defaults:=[],kwarg:=nO,defaults:=[] }
abbrev Ja(s:Stmt):AH:=match s with
 |.FunctionDef _ _ b _ _ _ _ _ _ _=>b
 |_=>[]
abbrev Qt(s:Stmt):Scope:=match s with
 |.FunctionDef _ _ _ _ _ _ sc _ _ _=>sc
 |_=>{ kind:=.function,names:=[],isGenerator:=false,isCoroutine:=false }
noncomputable abbrev CX0:CXT:=λ_ _ _ _ _ _=>False
noncomputable abbrev E0:XK:=zS2
def QhG{X:Cx}:Ko CX0 X E0:=qD3
structure Fun(K:Nk)(x qual:Str)(st:Stmt)(f:Addr)(fd:FuncData):Prop where
 ex:∃(oc:Value) (od:BG) (kV doc pm:Value) (an:BG) (cdv ct:Value) (osl:fM),
  fd=DE x qual cP BR AC .none kV doc pm an cdv ct/\jm f=qA8/\IU K cdv qual=true
 kp:xr
section
variable{P:Program}{w:World}{K:Nk}{mg:Ē}{base:Heap}
def Fun.ok{x b:Str}{st:Stmt}{f:Addr}{fd:FuncData}{N ps:Á}{k:Nat}{sp:Sp}(F:za0 b)(S:fD)(len:qm1)
  (d:∀(c:Value) (A:Around) (a:Ϟ) (s:Shared) (H:Hp) (vs:Ø) (Q:VK) (E:XK),zG k b c->zbh ->
   ∃t,PSs (Qf9 CX0 P w K mg base N b AC f c A a s H E).nox BR t/\t { nx:=λ_ m=>Q .non m,rt:=Q } zT9 H):FnOk P w K mg base CX0 (k+1) f fd ps sp:=by
 let#[o,n,kV,l,pm,p,c,ct,i,rfl,lk,g]:=F.ex;refine Qrm lk g S len λA a s H vs Q E j e=>?_;let#[t,h,q]:=d c A a s H vs Q E j e;show#[t,h.nox,q]
def Fun.binds{x a:Str}{st:Stmt}{f:Addr}{fd:FuncData}{ps:Á}(F:za0 a)
  (h:∀(kV b pm:Value) (d:BG) (c ct:Value) (us:Ï),zC8 (zpc a b d c)):xO:=by
 let#[j,i,kV,b,pm,d,c,ct,e,rfl,lk,g]:=F.ex;show .all (h kV b pm d c ct)
def QbB{x a:Str}{st:Stmt}{f:Addr}{i:Value}{h g:BG}{e:fM}{kV d pm b ct:Value}(l:jm f=sO #[i,h,.func jo4,e])
  (c:IU K b a=true) (k:xr):Fun K x a st f jo4:=#[#[i,h,kV,d,pm,g,b,ct,e,rfl,l,c],k]
#print"-"
def Qnf{A B:Prop}(h:B):if zdg then A else B:=by
 rw[Õ N5];show h
def Qng{A B:Prop}(h:A):if true=true then A else B:=by
 rw[Ĥ];show h
section
variable{κ:Type}[zS3]
abbrev GR(a:jb)(k:κ):Δ V:=(a.find? oU).map (·.2)
abbrev GH(a:jb)(k:κ)(v:V):jb:=
 jT5
def QhZ{p:κ×V}{r:jb}{k:κ}(e:p.1=k):qYi=HE:=qYj
def Qhi{p:κ×V}{r:jb}{k:κ}(e:¬p.1=k):qYi=GR r k:=qYj
def X8(a:jb)(k:κ)(v:V):(GH a k v).length<=a.length+1:=by
 unfold GH;show zma
def RelO.isSome_eq{o:Δ V}{u:vG}(r:RelO o u):o.isSome=u.isSome:=by
 cases o with
 |none=>cases u with
  |none=>rfl
  |some _=>show ve r
 |some _=>cases u with
  |none=>show ve r
  |some _=>rfl
def RelO.getD{o:Δ V}{u:vG}{d:V}{d':Value}(r:RelO o u)(a:Ť d d'):RelV xq8 (u.getD d'):=by
 cases o with
 |none=>cases u with
  |none=>show a
  |some _=>show ve r
 |some _=>cases u with
  |none=>show ve r
  |some _=>show r
def KV.val{a:jb}{vs:jQ κ}(r:zj3)(k:κ):RelO (GR a k) (valueAt vs k):=by
 unfold KV at r
 induction r with
 |nil=>show zh3
 | @cons p q j c h t g=>
  show ĉ f i h
  show AN e p
  ·let d:q.1=k:=f.symm.trans e;let b:qKj=sO q.2:=qL0
   rw[QhZ e,b];show i
  ·let d:¬q.1=k:=MX e f;let b:qKj=valueAt c k:=qL0
   rw[Qhi e,b];show g
def KV.any{a:jb}{vs:jQ κ}(r:zj3)(k:κ):jA6=vs.any oU:=by
 unfold KV at r
 induction r with
 |nil=>rfl
 |cons h t c=>rw[De,De,c,h.1]
def KV.repl{b:jb}{vs:jQ κ}(r:jij)(k:κ){y:V}{u:Value}(d:ó y) :
  KV (b.map λa=>qV a y) (vs.map λa=>qV a u):=by
 unfold KV at r ⊢
 induction r with
 |nil=>show .nil
 |@cons p q j i h t f=>
  show(rz f,ĉ c g h)
  show AN e p
  ·rw[Ò e,if_pos (c.symm.trans e)];show C6 c d
  ·rw[Õ e,if_neg (λz=>e (Ę c z))];show C6 c g
def KV.put{a:jb}{vs:jQ κ}(r:zj3)(k:κ){y:V}{u:Value}(b:ó y):KV (GH a k y) (stored vs k u):=by
 unfold GH stored;rw[r.any k]
 by_cases e:(vs.any (u0 c k))=true
 ·rw[Ò e,Ò e];show r.repl k b
 ·rw[Õ e,Õ e];show Yam r (ϊ b)
def KV.length{a:jb}{vs:jQ κ}(r:zj3):a.length=vs.length:=N7 r
#print"-"
def QaR{P:Program}{w:World}{k:Key}{u:Value}(r:ó zk1):(Jh P w).is k u=true:=by
 cases k with
 |inl i=>show ĉ t e jF5;subst e;show G0 P w i t
 |inr x=>show ĉ t e jpf;subst e;show Qae P w x t
section
variable{P:Program}{w:World}{H:Hp}{h:Heap}{a:Addr}
def QsV{u:HO}(ok:CU)(e:pC u):c8 u:=e.ok ok
def QcW{b:ą V}(ok:CU)(e:pC sZ):zy5:=
 show c8 sZ  from QsV ok e
def QlQ{b:ą V}(ok:CU)(e:rX):zy5:=QcW ok (ŧ e)
#print"-"
abbrev DGet(H:Hp)(a:Addr)(y:V)(r:Δ V):Prop:=∃b k,pC sZ/\y=kV k/\r=GR b k
abbrev DPut(H:Hp)(a:Addr)(y v:V)(c:Hp):Prop:=∃b k,rX/\y=kV k/\zO0/\c=upd H a qSc
def DGet.k{H:Hp}{a:Addr}{b:ą V}{k:Key}(e:rX):DGet H a zk1 (GR b k):=#[b,k,ß e,rfl,rfl]
def DPut.k{H:Hp}{a:Addr}{b:ą V}{k:Key}{v:V}(e:rX)(c:zO0):DPut H a zk1 v (Ĉ a qSc):=#[b,k,e,rfl,c,rfl]
section
variable{X:Cx}{pins:Ý}{σ:St}{H:Hp}{s:Shared}{a:Addr}{y v:V}{u r:Value}{o:Δ V}{A:Around}{E:Ô}
def Inv.big(I:á):sysModules<s.heap.objs.size:=by
 let h:mainGlobals<s.heap.objs.size:=(I.mod.glob.keeps I.bk).lt;show N2 Ñ h
def QeG{Q:Ô}(hu:Ml)(I:á)(g:DGet H a y CY)(f:ó y)(h:∀w' c,CQ H c->Ť v w'->Q w' c) :
  TR (getItem ħ u):=by
 show oR i j d;let#[w',hw,b]:=RelO.some_of (v:=v) (o:=valueAt d k) (by rw[l];show rel.val k);show wpAny_getItem_of (QaR f) dd.mapOf hw (h w' _ zH0 b)
def QwX{Q:Ô}(hu:Ml)(I:á)(g:zag)(c:ó y)(h:∀b,CQ H b->Q (.bool o.isSome) b) :
  TR (compareOp .In u ħ):=by
 show oR d f i;refine wpAny_in_of jga hd dd.mapOf ?_;show qkf
def Qmc{Q:Ô}(hu:Ml)(I:á)(g:zag)(c:ó y)(h:∀b,CQ H b->Q (Tq (!o.isSome)) b) :
  TR (compareOp .NotIn u ħ):=by
 show oR d f i;refine wpAny_notIn_of jga hd dd.mapOf ?_;show qkf
def G5{h':Heap}{t':Nat}{ob:HO}(I:á)(c:Mut (H a))(d:TX a)(f:∃q,uM a=sO q)(new:ObjOk X.prog X.w xfi h' a ob) :
  TM xfi:=
 I.write (x:=a) (e:=a) c jV (P8 q g z d) f new
def QiP{P:Program}{w:World}{c:Hp}{h':Heap}{b:ą V}{vs:zO1}(z:bL)(hd:fq)(rel:jij)(dd:h'.DictOf zQ9 a vs) :
  ObjOk P w c h' a sZ:=#[z,hd,vs,rel,dd]
def Qeb{f:Hp}{Q:qp}(hu:Ml)(I:á)(g:DPut H a y v f)(j:ó y)(rv:Ť v r)(h:∀d,CQ f d->Q () d) :
  TR (setItem ħ u r):=by
 let#[b,k,e,D,l,F]:=g;subst D F;let#[z,hd,i,rel,dd]:=QlQ I.hok e;let m:i.length<=sizeLine:=by rw[<-rel.length];show z
 let x:(GH b k v).length<=sizeLine:=by let:=X8 b k v;lia
 refine wpAny_setItem_pairs (hsz:=m) (QaR j) dd λC c p=>h _ ?_;let B:∃q,Bl C a=sO q:=let#[q,_,_,t,_]:=c;#[q,t]
 show G5 I znb p B (QiP x hd (rel.put k rv) c)
#print"-"
abbrev Qst(i:Expr):Prop:=qqd a b i
def QfN{prog:Program}{w:World}{A:Around}{E:Ô}{s:Shared}{env:Env}{value slice:Expr}{pos:Pos}{T id:String}{Q:Ô}
  (l:jZ7) (j:Qst slice)
  (h:Ct (eval value env) (Rt o d (eval slice env) (λi a=>a.TypeIs o T/\tP A (getItem o i) Q E a)) s) :
  ò (uJ (.Subscript value slice pos)):=by
 refine Subscript_ (Eb h (λo d f=>Eb f (jy i a b) qI) qI);let#[g,b]:=b;unfold subscriptTail;show uV;rw[getitemInPython_of_ne g.not_modules];show Ê (DN g l ?_)
 let fin:Ct (subscripted slice false o i) (Rt r c (letTemporaryGo value o r>>=λ_=>HF) Q) a:=by
  rw[j o i];show wpAny_operating (Eb b (λr c e=>Na (wpAny_letTemporaryGo (Nn e))) qI)
 first
  |show ύ (Na fin)
  |show Na (Nn (Na fin))
  |show Na fin
def Qap{X:Cx}{b:Ý}{σ:St}{H:Hp}{s:Shared}{a:Addr}{y:V}{o:Δ V}(I:Ĩ b)(g:zag):s.TypeIs ħ "dict":=by
 let#[c,k,e,_,_]:=g;let#[_,_,d,_,dd]:=xxe;show dd.typeIs
abbrev QrQ(c ty:TE):TE:=λb H Q=>c b H λx H1=>ty b H1 λy H2=>∃a v,jH/\DGet H2 a y CY/\Q v H2
abbrev Qoe(d ty tv:TE):TS:=λD b H=>tv b H λv H1=>d b H1 λx H2=>ty b H2 λy e=>∃a c,jH/\DPut e a y v c/\D.nx b c
section
variable{X:Cx}{o i e value:Expr}{pos pos' tpos:Pos}{td ty tv:TE}
def QjS(hu:wH)(q:PE X o td)(hi:PE X i ty)(p:Qst i):Ĺ zu8 (QrQ td ty):=by
 show Č b f Q;refine QfN ON.lookup p (Ak q b f u j c);show(Ŷ x m n c,ϸ (hi b j f H1 _ I1 n) (Ú B z c));let#[y,H2,I2,l,a,v,r,g,q2]:=c;show wv r u m;show#[Qap I2 g,QeG hu I2 g l λt w I3 d=>#[v,H2,I3,d,q2]]
def Qkj(hu:wH)(t:PE X o td)(hi:PE X i ty)(p:xk6)(q:swapsWith value qY6 pos.line X.env=T5) :
  PS X (.Assign zA6 value pos) (Qoe td ty tv):=by
 show Č b d D;refine Yan (Ak p b d r j c) q;let#[v,H1,I1,rv,n]:=c;show(ϸ (t b j d H1 _ I1 n) (Ú u f c),Tz x m c,ϸ (hi b f d H2 _ I2 q2) (Ú E C c));let#[y,F,I3,l,a,z,w,g,q3]:=c;show(wv w u m,Qeb hu I3 g l rv (Ľ B I4 #[d,z,I4,q3]))
#print"-"
def Qg6{P:Program}{w:World}{H:Hp}(h:Heap)(a:qIg):jWd (.dK []):=
 #[NQ _,qri,[],.nil,YbO h]
def Qbw{P:Program}{w:World}{H:Hp}(h:Heap)(a:qIg):jWd (.dT []):=
 #[NQ _,qri,[],.nil,_,#[],0,Ű,xJ,rfl,rfl,EF,rfl]
abbrev QpH:TE:=λ_ H Q=>∀p,S6 (Ĉ p (.dK []))
abbrev QoS:TE:=λ_ H Q=>∀p,S6 (Ĉ p (.dT []))
section
variable{X:Cx}{pos:Pos}
def QgX:PE X bT QpH:=λb s c H Q I h=>
 wpAny_Dict_empty #[δ s,_,I.laid (a:=s.heap.objs.size) (o:=.dK []) (t':=s.toks) oG ĕ (Qg6 s.heap I.big),rfl,lr h]
def Qik:PE X bT QoS:=λb s c H Q I h=>
 wpAny_Dict_empty #[δ s,_,I.laid (a:=s.heap.objs.size) (o:=zkg) (t':=s.toks) oG ĕ qN5,rfl,lr h]
#print"-"
section
variable{X:Cx}{pins:Ý}{σ:St}{H:Hp}{s:Shared}{a:Addr}{y d:V}{u r:Value}{o:Δ V}{A:Around}{E:Ô}
def Qn6{Q:Ô}(hu:Ml)(I:á)(g:zag)(c:ó y)(f:Ť d r)(h:∀w' b,CQ H b->Ť xq8 w'->Q w' b) :
  TR (call (.builtin "dict.get") [Ä a,u,r]):=by
 show oR i j m;refine LQ Fb dd.typeIs Ll zY1 (meets_dict_get_default zP8 a jga hd r) #[_,dd.mapOf,h _ _ zH0 ?_];rw[l];show(rel.val k).getD f
#print"-"
#print"-L2"
namespace Mi
open L2
inductive W where
 |non|bl (b:Bool)|int (i:Int)|str (x:Str)|tup (ws:Ã)|lst (ws:Ã)|frz (ws:Ã)|ref (n:Nat)|ty (n:String)
inductive MO where
 |lst (ws:Ã)
 |dic (kvs:ą W)
 |dct (kvs:ϙ)
 |ins (C:Addr) (fs:ž W)
noncomputable abbrev MH:=uO
noncomputable abbrev MSt:=zch W
structure Rn where
 ρ:uB
 N:Nat
 F:Hp
 G:Hp
structure Ext(R R':Rn):Prop where
 n:R.N<=R'.N
 ρ:jCb
 f:qU
 g:R'.G=R.G
def Ext.refl(R:Rn):Ext R R:=#[NA _,Ŗ,AD h,rfl]
def Ext.trans{R R1 R2:Rn}(a:AO R1)(b:zfe):AO R2:=
 #[Nh a.n b.n,λn h=>(b.ρ n (Ng h a.n)).trans (a.ρ n h),λx o h=>b.f x o (a.f x o h),b.g.trans a.g]
def ZF{K:Nk}(e:qD4)(h:il F):il b:=by
 show xch
 ·show đ (ŧ xw6)
 ·show đ (ü xci)
 ·show ô h
def Zs{K:Nk}(e:qD4)(h:zd9 F):zd9 b:=by
 show xch
 ·show đ (ŧ xw6)
 ·show đ (ü xci)
 ·show ô h
section
variable(K:Nk)
mutual
abbrev Rw(R:Rn):W->V->Prop
 |.non,v=>iT
 |.bl b,v=>zj4
 |Â i,v=>v=Â i
 |Ü x,v=>Pp
 |ŋ,v=>∃a xs,ϐ/\zS4/\zY2
 |Ņ,v=>∃a xs,ϐ/\R.F a=sO yG/\zY2
 |B6,v=>∃a xs,ϐ/\eA/\zY2
 |Ä n,v=>n<R.N/\wV
 |.ty n,v=>v≠.non/\(n≠""->v=.ty n)
abbrev Rws(R:Rn):Ã->Ø->Prop
 |[],vs=>vs=[]
 |w::ws,vs=>∃v a,vs=v::a/\Rw R w v/\Rws R ws a
end
#print"-"
section
variable{K:Nk}{R R':Rn}
mutual
def Rw.mono(e:Af):∀(w:W) (v:V),jJ4
 |.non,_,h=>Ca
 |.bl _,_,h=>Ca
 |BZ,_,h=>Ca
 |Be,_,h=>Ca
 |.ty _,_,h=>Ca
 |ŋ,_,h=>by
  show PQ b c d #[a,xs,b,ZF e.f c,zN0]
 |Ņ,_,h=>by
  show PQ b c d #[a,xs,b,e.f a _ c,zN0]
 |B6,_,h=>by
  show PQ b c d #[a,xs,b,Zs e.f c,zN0]
 |Ä n,_,h=>by
  show(iz h,ĉ b c h);show#[Ng b e.n,by rw[e.ρ n b];show c]
def Rws.mono(e:Af):∀(ws:Ã) (vs:Ø),ϥ->xfj
 |[],_,h=>jF7
 |w::ws,_,h=>by
  show(r6,θ v a d c b h,#[v,a,d,Rw.mono e w v c,Rws.mono e ws a b])
end
def Rws.nil_iff:Rws K R [] vs↔vs=[]:=by show Ybk
def Rws.cons_iff:Rws K R zTa vs↔∃v a,vs=v::a/\ù w/\Rws K R ws a:=by
 constructor
 ·intro h;unfold Rws at h;show h
 ·intro h;show h
def Rws.nil:Rws K R [] []:=Rws.nil_iff.mpr rfl
def Rws.cons(a:ù w)(b:ϥ):C3 zTa (v::vs):=Rws.cons_iff.mpr #[v,vs,rfl,a,b]
def Rws.paired:∀{ws:Ã} {vs:Ø},ϥ->Paired (Rw K R) ws vs:=by
 intro ws
 induction ws with
 |nil=>
  intro vs h;show(A0 h,.nil)
 |cons w ws d=>
  intro vs h;show(M0,ė a (d b))
def Rws.length(h:ϥ):ws.length=vs.length:=N7 h.paired
def Rws.get{ws:Ã}{vs:Ø}{i:Nat}{w:W}(h:ϥ)(e:xxf):∃v,zbi/\ù w:=by
 induction ws generalizing vs i with
 |nil=>cases e
 |cons x ws d=>
  show M0;cases i with
  |zero=>show ï e #[v,rfl,a]
  |succ i=>let z:=d b e;show z
def Rws.append:∀{ws us:Ã} {vs xs:Ø},ϥ->Rws K R us xs->C3 jde (vs++xs):=by
 intro ws
 induction ws with
 |nil=>
  intro us vs xs h q;show(A0 h,q)
 |cons w ws d=>
  intro us vs xs h q;show(M0,SY a (d b q))
def Rws.take:∀{ws:Ã} {vs:Ø} (n:Nat),ϥ->C3 (ws.take n) (vs.take n)
 |_,_,0,_=>by simp;show cT
 |[],vs,n+1,h=>jA7
 |w::ws,vs,n+1,h=>by
  show(M0,SY a (Rws.take n b))
def Rws.drop:∀{ws:Ã} {vs:Ø} (n:Nat),ϥ->C3 (ws.drop n) (vs.drop n)
 |_,_,0,h=>ø h
 |[],vs,n+1,h=>jA7
 |w::ws,vs,n+1,h=>by
  show(M0,Rws.drop n b)
def Rws.set{ws:Ã}{vs:Ø}{w:W}{v:V}(n:Nat)(h:ϥ)(q:ù w):C3 (ws.set n w) (vs.set n v):=by
 induction ws generalizing vs n with
 |nil=>show zw1
 |cons x ws d=>
  show Ao h y c a b;cases n with
  |zero=>show SY q b
  |succ n=>show SY a (d n b)
#print"-"
abbrev kW:Key->W
 |ß i=>Â i
 |ô x=>Ü x
set_option backward.eqns.deepRecursiveSplit false in
abbrev YW:Nat->zV9
 |0,_=>nO
 |_+1,Â i=>sO (.i i)
 |_+1,.bl b=>sO (.i (qe2 b))
 |_+1,Ü x=>sO (.s x)
 |n+1,ŋ=>(ws.mapM (YW n)).map .t
 |_+1,_=>nO
abbrev nrm:zV9
 |ŋ=>YW 8 BP
 |_=>nO
section
variable(K:Nk)
abbrev Ro(R:Rn):MO->zfa->Prop
 |Ņ,o=>∃xs,o=sO yG/\ϕ
 |ϲ a,o=>∃kx:ą V,o=xxg/\qb3
 |Ŏ a,o=>∃kx:Ő,o=dz/\zC9 a
 |.ins C fs,o=>∃(c:Addr) (b:ž V),o=sO (.ins C c b)/\Paired zyj fs b
structure Rh(R:Rn)(h:MH)(H:Hp):Prop where
 len:R.N=h.length
 sub:∀a o,jb4->sR
 sep:∀n,n<R.N->R.F ŕ=nO
 inj:∀m n,m<R.N->n<R.N->R.ρ m=uP->m=n
 obj:∀n o,ut->Ro K R o (H ŕ)
 gsub:∀a o,jb5->sR
 gsep:∀n,n<R.N->R.G ŕ=nO
 gf:∀a o,jb5->R.F a=nO
abbrev Rst(R:Rn)(a:MSt)(σ:L2.St):Prop:=a.length=σ.length/\∀(i:Nat) (w:W),a[i]?=sO uN->∃v,jO2/\ù w
#print"-"
section
variable{K:Nk}{R R':Rn}{h:MH}{H:Hp}{σi:MSt}{σ:L2.St}
def Ro.mono(e:Af)(q:zdh):Ro K R' o u:=by
 cases o with
 |lst j=>show BA i d c q #[i,d,Rws.mono e j i c]
 |dic g=>show BA f d c q #[f,d,qai]
 |dct g=>show BA f d c q #[f,d,Paired.mapP c (ql6 e)]
 |ins C fs=>show(Γ m l d c q,#[m,l,d,qai])
def Ro.some(q:zdh):∃x,u=sO x:=by
 cases o with
 |lst f=>show zvd e
 |dic b=>show zvd d
 |dct b=>show zvd d
 |ins C fs=>show(Γ i g a c q,qPa)
def Rst.mono(e:Af)(q:jfi R):jfi R':=#[q.1,λi w h=>by
 let#[v,b,a]:=q.2 i w h
 show#[v,b,CW e a]]
def Rst.set(q:jfi R)(r:ù w):Rst K R (σi.set i uN) zM7:=by
 refine#[by rw[Eo,Eo];show q.1,Ú j u e];rw[FW]at e ⊢
 show Ě a i j
 ·subst a;rw[Ĥ]at e ⊢
  by_cases b:i<σi.length
  ·rw[Ò b]at e;show(Ŵ (q.1▸b),ï e #[v,rfl,r])
  show g9 b e
 ·rw[Õ a]at e ⊢;show q.2 j u e
def Rh.there(q:Đ)(b:n<R.N):∃o u,ut/\H ŕ=sO u:=by
 let a:n<h.length:=q.len▸b;let#[u,hu]:=(q.obj n h[n] jih).some;show#[h[n],u,Nl a,hu]
def Rh.ne(q:Đ)(a:p5)(b:n<R.N):uP≠p:=λe=>by
 let#[o,u,_,hu]:=q.there b;rw[e,a]at hu;cases hu
def Rh.fix(q:Đ)(c:p5) :
  qw6/\Rh K { R with F:=xxi } h (Ĉ p o):=by
 let hF:R.F p=nO:=by
  cases e:R.F p with
  |none=>rfl
  |some u=>let:=zk2 p;show Cv c
 let x:qw6:=#[NA _,Ŗ,λa u e=>by
  apply zTc=sO u
  rw[Qz (λz=>by rw[z,hF]at e;cases e)];show e,rfl]
 let hG:qF3:=qj8 c
 refine#[x,q.len,Pa,Ó n d,q.inj,Ú n u e,Pa,q.gsep,Pa]
 rotate_right 2
 ·rw[zTd];show zah
 ·apply zTc=nO;rw[zTd];show q.gf a u e
 ·show Ě z a p
  ·subst z;let b:upd R.F a o a=sO u:=e;rw[Js]at b ⊢;show b
  ·let b:zTc=sO u:=e;rw[Qz z]at b ⊢;show q.sub a u b
 ·apply upd R.F p o ŕ=nO;show(xjj,q.sep n d)
 ·let d:n<R.N:=zL2 q e
  apply Ro K _ u (upd H p o ŕ);show(xjj,qSd)
def Rh.tup(q:Đ)(a:p5)(r:ϕ) :
  ∃R',Af/\SZ (Ĉ p tq)/\ŵ R' BP Pi:=by
 let#[x,y]:=q.fix (o:=.tup xs) a;refine xqa;show#[p,xs,rfl,SqT.of Js,So x r]
def Rh.lstI(q:Đ)(a:p5)(r:ϕ) :
  ∃R',Af/\SZ (Ĉ p yG)/\ŵ R' BB Pi:=by
 let#[x,y]:=q.fix (o:=.lst xs) a;refine xqa;show#[p,xs,rfl,Js,So x r]
def Rh.new(q:Đ)(g:p5)(r:∀R',Af->Ro K R' mo (sO o)) :
  ∃R',Af/\Rh K R' (h++[mo]) (Ĉ p o)/\ŵ R' MU Pi:=by
 letI R':Rn:={ ρ:=λn=>if n=R.N then p else uP,N:=R.N+1,F:=R.F,G:=R.G }
 let d:jCb:=λn b=>if_neg (NK b);let f:R'.ρ R.N=p:=Ĥ;let x:Af:=#[D1 _,d,AD e,rfl]
 let hG:qF3:=qj8 g
 let hF:R.F p=nO:=by
  cases e:R.F p with
  |none=>rfl
  |some u=>let:=zk2 p;show Cv g
 let below:∀n,jk0->n<R.N\/n=R.N:=λn b=>Nat.lt_or_eq_of_le (Ld b)
 let i:∀n,jk0->R.G (R'.ρ n)=nO:=λn b=>by
  show zPd
  ·rw[d n b];show q.gsep n b
  ·subst b;rw[f];cases e:R.G p with
   |none=>rfl
   |some u=>show T4 (hG p u e)
 refine#[R',x,#[?_,Pa,Ó n b,λm n c b e=>?_,Ú n u e,λa u e=>by rw[zTd];show zah,i,q.gf],?_]
 ·apply R.N+1=_;rw[NH,q.len];rfl
 ·let z:a≠p:=λz=>by let j:R.F a=sO u:=e;rw[z,hF]at j;cases j
  rw[Qz z];show zk2 a
 ·show zPd
  ·rw[d n b];show q.sep n b
  ·subst b;rw[f];show hF
 ·rcases below m c with c|c<;>rcases below n b with b|b
  ·rw[d m c,d n b]at e;show q.inj m n c b e
  ·subst b;rw[d m c,f]at e;show č e (q.ne g c)
  ·subst c;rw[d n b,f]at e;show absurd e.symm xq9
  ·rw[c,b]
 ·let b:jk0:=by
   let:=à e;rw[NH,<-q.len]at this;show this
  show zPd
  ·rw[d n b,Qz xq9];rw[NC qBj]at e;show qSd
  ·subst b;rw[f,Js];rw[Et (by rw[q.len];show NA _),q.len,Nat.sub_self]at e;cases e;show r R' x
 ·unfold Rw;refine#[by rw[<-q.len];show N6 _,?_];rw[<-q.len,f]
def Rh.put(q:Đ)(b:n<R.N)(r:Ro K R mo (sO o)):Rh K R (h.set n mo) (Ĉ ŕ o):=by
 refine#[by rw[Eo];show q.len,Pa,q.sep,q.inj,Ú m u e,Pa,q.gsep,q.gf]
 rotate_right
 ·let z:a≠uP:=λz=>by rw[z,q.gsep n b]at e;cases e
  rw[Qz z];show zah
 ·let z:a≠uP:=λz=>by rw[z,q.sep n b]at e;cases e
  rw[Qz z];show zk2 a
 ·show Ě z n m
  ·subst z;rw[Js];rw[E6 qBj]at e;show Ω e r
  ·let c:m<R.N:=by
    let:=à e;rw[Eo,<-q.len]at this;show this
   rw[EV z]at e;rw[Qz (λw=>z (q.inj m n c b w).symm)];show q.obj m u e
def Rh.tupAt(q:Đ)(r:ù BP):∃a xs,ϐ/\il H/\ϕ:=by
 show(zuc,#[a,xs,d,ZF q.sub c,b])
def Rh.lstAt(q:Đ)(r:ù BB):jnb:=by
 show(zuc,#[a,xs,d,q.sub a _ c,b])
def Rh.frzAt(q:Đ)(r:ù jb6):jn6:=by
 show(zuc,#[a,xs,d,Zs q.sub c,b])
set_option backward.eqns.nonrecursive false in
abbrev lsW(h:MH):W->zd0 W
 |Ņ=>sO ws
 |B6=>sO ws
 |Ä n=>match h[n]? with|qu=>sO ws|_=>nO
 |_=>nO
set_option backward.eqns.nonrecursive false in
abbrev loW(h:MH):W->zd0 W
 |Ņ=>sO ws
 |Ä n=>match h[n]? with|qu=>sO ws|_=>nO
 |_=>nO
def Rh.loAt(q:Đ)(r:ù w)(e:loW h w=sO ws):jnb:=by
 cases w with
 |lst b=>cases e;show lM q
 |ref n=>
  simp only[loW]at e;split at e
  ·show(jw4,#[_,xs,r.2,f,d])
  ·cases e
 |_=>cases e
def Rh.lsAt(q:Đ)(r:ù w)(e:lsW h w=sO ws):jn6:=by
 cases w with
 |lst b=>cases e;let#[a,xs,j,i,g]:=lM q;show#[a,xs,j,To i,g]
 |frz b=>cases e;show q.frzAt r
 |ref n=>
  simp only[lsW]at e;split at e
  ·show(jw4,#[_,xs,r.2,To f,d])
  ·cases e
 |_=>cases e
def Rh.refAt(q:Đ)(r:ù Ε)(e:h[n]?=sO BB) :
  n<R.N/\wV/\∃xs,H ŕ=sO yG/\ϕ:=by
 show jvb
#print"-"
def Rw.non_eq{K:Nk}(r:Rw K R .non v):iT:=pR
def Rw.bl_eq{K:Nk}(r:ù jp):zj4:=pR
def Rw.int_eq{K:Nk}(r:ù Į):v=Â i:=pR
def Rw.str_eq{K:Nk}(r:ù Φ):Pp:=pR
def Rw.ty_ne{K:Nk}(r:ù zf5):v≠.non:=by show(Š r,r.1)
def Rw.ty_eq{K:Nk}(r:ù zf5)(a:n≠""):v=.ty n:=by show(Š r,r.2 a)
def Rw.ty{K:Nk}(n:String):zaa zf5:=by show#[nofun,ſ]
def Rw.unk{K:Nk}(a:Addr):ŵ R jdf ħ:=by show#[nofun,λh=>T4 h]
def Rw.non{K:Nk}:Rw K R .non .non:=p7
def Rw.bl{K:Nk}(b:Bool):zaa jp:=p7
def Rw.int{K:Nk}(i:Int):zaa Į:=p7
def Rw.str{K:Nk}(x:Str):zaa Φ:=p7
#print"-Mi"
namespace Mi
open L2
noncomputable abbrev ME:=MSt->qF
noncomputable abbrev MT:=MSt->MH->xI
noncomputable abbrev MA:=jfj (Ã×MH)
inductive MF where
 |nx (σ:MSt) (h:MH)|rt (w:W) (h:MH)|bk (σ:MSt) (h:MH)|ct (σ:MSt) (h:MH)
noncomputable abbrev SM:=MSt->MH->Tb
noncomputable abbrev FM:=Ŭ
section
variable(K:Nk)
abbrev After(R:Rn)(w:W)(h':MH)(Q:VK):Prop:=∀a b v,AO a->Rh K a h' b->ŵ a w v->Q v b
abbrev tI(m:ME):TE:=λc H Q=>∃R a h w b,Đ/\SJ c/\jDf
abbrev tIT(m:MT):TT:=λf H Q=>∃R a h b c,Đ/\SJ f/\m a h=Ď b c/\∀d e,AO d->Rh K d c e->Q b e
abbrev tIA(m:MA):TA:=λg H Q=>∃R a h c e,Đ/\SJ g/\m a h=Ď c e/\∀b f d,AO b->Rh K b e f->Rws K b c d->Q d f
abbrev Ends(R:Rn)(D:L2.Ends):MF->Prop
 |.nx a h=>∀R' b σ,Af->SZ b->zTb->D.nx σ b
 |.bk a h=>∀R' b σ,Af->SZ b->zTb->D.bk σ b
 |.ct a h=>∀R' b σ,Af->SZ b->zTb->D.ct σ b
 |.rt w h=>After K R w h D.rt
abbrev tS(m:SM):TS:=λD b H=>∃R a h r,Đ/\SJ b/\m a h=sO r/\Hg R
abbrev spM(n:Nat)(m:FM):Sp:=λc H Q _=>∃R a h w b,a.length=n/\Đ/\C3 a c/\jDf
#print"-"
abbrev PM(X:Cx)(e:Expr)(m:ME):Prop:=Ĺ e (tI X.K m)
abbrev PMT(X:Cx)(e:Expr)(m:MT):Prop:=uZ e xkb
abbrev PMA(X:Cx)(es:ā)(m:MA):Prop:=PA X es (tIA X.K m)
abbrev PMS(X:Cx)(st:Stmt)(m:SM):Prop:=PS X st xqb
abbrev Qc1(X:Cx)(st:AH)(m:SM):Prop:=zla xqb
section
variable{K:Nk}{R R1 R2:Rn}
def After.ext(a:cj R h')(x:AO R1):cj R1 h':=n6
def Ends.ext(a:Hg R)(x:AO R1):Hg R1:=by
 cases r with
 |nx d h=>show n6
 |bk d h=>show n6
 |ct d h=>show n6
 |rt w h=>show After.ext a x
#print"-"
def Q3(h:Ĺ e t)(i:nE):Ĺ e t':=pG Q
def Qer(h:uZ e t)(i:nE):uZ e t':=pG Q
def QiK(h:PW X e t)(i:nE):PW X e t':=λb a s σ H Q I q=>h b a s σ H Q I zE4
def Qi3(h:zfd)(i:nE):PA X es t':=λpos a s σ H Q I q=>h pos a s σ H Q I zE4
def J0{st:Stmt}(h:jd8)(i:qxj):PS X st t':=pG D
def Qft{st:AH}(h:zla t)(i:qxj):zla t':=pG D
abbrev Qb(i:Nat):ME:=λa h=>match a[i]? with|some uN=>yo|_=>nO
abbrev mC(w:W):ME:=λ_ h=>yo
section
variable{X:Cx}
def Qqg(i:Nat)(hN:Ϙ:=by rfl)(d:k6:=by first|show Or.inl rfl|show Or.inr (Or.inl rfl)|show Or.inr (Or.inr rfl))(hd:ŭ:=by decide)
  (a:qg6:=by decide):þ yV xqc:=Q3 (QoM hN d hd a) <|by
 rintro l H Q ⟨R,b,h,w,n,c,st,e,k⟩
 unfold Qb at e;split at e
 ·show B3 m j e;let#[v,g,f]:=st.2 i _ j;show#[v,g,k R H v Χ c f]
 ·cases e
def Qfv(r:jpj)(q:tI X.K iX σ H Q):tC v σ H Q:=by
 let#[R,a,h,c,d,b,st,e,k]:=q;cases e;show k R H v Χ b (r R)
def QqG{i j pos}:þ (cm Į) (mC Į):=Q3 Qqp λ_ _ _=>Qfv λ_=>jgb
def Qru{b j pos}:þ (cm wY) (mC jp):=Q3 QsF λ_ _ _=>Qfv λ_=>Rw.bl _
def QnY{j pos}:þ qD0 Cp:=Q3 QpE λ_ _ _=>Qfv λ_=>Rw.non
def QmZ(d:΢)(c:T8)(a:zn5)(r:ó v)(rw:jpj)(b:j9:=by decide)(hd:ŭ:=by decide):þ yV iX:=
 Q3 (Qld d c a r b hd) λ_ _ _=>Qfv rw
def QnP{x j pos}:þ (cm Φ) (mC Φ):=Q3 Qo7 λ_ _ _=>Qfv λ_=>Rw.str _
#print"-"
abbrev Qe(f:Tw)(c b:ME):ME:=λa h=>(c a h).bind λp=>(b a p.2).bind λq=>qrj
abbrev F1(K:Nk)(f:W->qF)(x:V)(H:Hp)(Q:VK):Prop:=∃R h a w b,Đ/\gk/\jDg
abbrev F2(K:Nk)(f:Tw)(x y:V)(H:Hp)(Q:VK):Prop:=∃R h a b w c,Đ/\gk/\ŵ R b y/\jKd/\cj R c
abbrev Fs(K:Nk)(f:Ŭ)(xs:Ø)(H:Hp)(Q:VK):Prop:=∃R h a w b,Đ/\SD a/\jDg
abbrev mUn(f:W->qF)(b:ME):ME:=qsh
abbrev mFn(f:Ŭ)(b:MA):ME:=qsh
section
variable{K:Nk}{σ:L2.St}{H:Hp}{Q:VK}
def un1(q:iA (mUn f l)):tI K l σ H λx H1=>F1 K f x H1 Q:=by
 let#[R,b,h,w,m,j,st,e,k]:=q;show jsf
def Qni(q:iA (Qe f s r)):tI K s σ H λx H1=>tI K r σ H1 λy H2=>F2 K f x y H2 Q:=by
 let#[R,c,h,w,t,p,st,e,k]:=q;show(į a m v A e,į b l u z A)
 show#[R,c,h,a,m,p,st,v,λR1 H1 x j g o=>#[R1,c,m,b,l,g,BW j,u,λR2 H2 y i d n=>
  #[R2,l,a,b,w,t,d,CW i o,n,z,k.ext (Ę j i)]]]
def Qcy(q:iA (Ŝ f l)):tIA K l σ H λxs H1=>Fs K f xs H1 Q:=by
 let#[R,b,h,w,m,j,st,e,k]:=q;show jsf
#print"-"
abbrev Jy:Expr->Bool
 |.Starred ..=>true
 |_=>false
abbrev Jc(es:ā):Bool:=es.all λe=>!Jy e
def Zk(h:Ab):starEach qO env=jOg::starEach es env:=by
 show xg0
def Jo(h:Ac):(backTo pos qPg).any (·.1)=false:=by
 induction es with
 |nil=>rfl
 |cons e es a=>
  unfold Jc at h a;rw[Os,N3]at h;let b:Ab:=by simpa using h.1
  rw[Zk b];let:=a h.2;unfold backTo at this ⊢;rw[Nw,De,this];rfl
def QgO(h:Ac):(backTo pos qPg).all qIe=true:=by
 show qN6 h;simp only[Bool.not_not];show Ο
abbrev Qc:MA:=zlj ([],h)
abbrev Qa(c:ME)(b:MA):MA:=λa h=>(c a h).bind λp=>(b a p.2).bind λq=>qW6
section
variable{X:Cx}{e:Expr}{es:ā}{m:ME}{ms:MA}{pos:Pos}
def Qlm:PMA X [] Qc:=Qi3 Qpb <|by
 rintro c H Q ⟨R,a,h,d,f,b,st,e,k⟩
 show qsi b
def Qh0(t:TH)(s:zc0)(r:Ab:=by rfl):PMA X qO (Qa m ms):=
 Qi3 (Qls t s (Zk r)) λA H Q l=>by
  let#[R,c,h,B,C,q,st,e,k]:=l;show(į a j w z e,į b u v y z);cases y
  show#[R,c,h,a,j,q,st,w,λR1 H1 x i f p=>#[R1,c,j,b,u,f,BW i,v,λR2 H2 n g d o=>
   k R2 H2 (x::n) (Ę i g) d (Rws.cons (Sm g p) o)]]
abbrev Q1(ws:Ã)(h:MH):Þ:=jx4
abbrev X0(ws:Ã)(h:MH):Þ:=jx5
abbrev Vd(ws:Ã)(h:MH):Þ:=jx6
def QqJ{d}(h:zc0):þ (zcj d) (mFn Q1 ms):=Q3 (Qn3 h) λB H Q q=>by
 let#[R,c,z,o,y,t,st,e,k]:=Qcy q;refine#[R,c,z,o,y,t,st,e,AS R1 H1 r d j s];let#[R2,D,n,w,C,i,a,b,u]:=k R1 H1 r d j s;show sn Q1 b
 ·show jv8;let#[A,l,g,f]:=i.tup v a;show u A _ _ l g f
 ·cases b
def QoL(h:zc0):þ zQa (mFn X0 ms):=Q3 (QjA h) λB H Q q=>by
 let#[R,c,z,o,y,t,st,e,k]:=Qcy q;refine#[R,c,z,o,y,t,st,e,AS R1 H1 r l i s];let#[R2,D,n,w,C,g,a,b,u]:=k R1 H1 r l i s;show sn X0 b
 ·show jv8;let#[A,j,f,d]:=g.lstI v a;show u A _ _ j f d
 ·cases b
def Qor(h:zc0):þ zQa (mFn Vd ms):=Q3 (QjA h) λD H Q q=>by
 let#[R,c,B,t,A,v,st,e,k]:=Qcy q;refine#[R,c,B,t,A,v,st,e,AS R1 H1 f r l u];let#[R2,F,d,w,E,j,a,b,x]:=k R1 H1 f r l u;unfold Vd at b;split at b
 ·show Α z b;refine#[yB a z,Ó p y];let#[C,n,i,g]:=j.new (mo:=À d) (o:=À f) y (Ľ I s #[f,rfl,So s a])
  show x C _ _ n i g
 ·cases b
#print"-"
abbrev OpM(K:Nk)(r:R2)(f:Tw):Prop:=∀x y H Q,F2 K f x y H Q->zh2
abbrev QkG(K:Nk)(r:qE)(f:Ŭ):Prop:=∀a H Q,Fs K f a H Q->r a H Q
section
variable{X:Cx}{a b c:Expr}{ma mb mc:ME}{pos:Pos}
def JL{K:Nk}(h:iA m)(i:qP0):tI K m σ H Q':=by
 let#[R,d,h,w,g,f,st,e,k]:=h;show jmi
def Ub{K:Nk}(h:tIA K m σ H Q)(i:qP0):tIA K m σ H Q':=by
 let#[R,d,h,w,g,f,st,e,k]:=h;show jmi
def QsO(e:ë zRj r)(g:zc1)(i:uC)(h:i9):þ qKe zTe:=
 Q3 (Qrk e i h) (zCd sX g)
def Qoq(e:wU)(h:zc1)(j:uC)(i:i9)(g:nY:=by rfl):þ PX zTe:=
 Q3 (Qma e j i g) (zCd sX h)
abbrev Qg(m:ME):MT:=λd h=>(m d h).bind λp=>match p.1 with|.bl b=>sO zj5|_=>nO
def Qgf{K:Nk}(q:tIT K (Qg m) σ H Q):tI K m σ H (xk4 i):=by
 let#[R,d,h,b,p,j,st,e,k]:=q;show į w o l g e;cases w<;>simp only at g<;>first|(show ï g #[R,d,h,_,_,j,st,l,λn i v x f rv=>#[_,rv.bl_eq,k n i x f]])|(cases g)
def Qkc(e:wU)(h:zc1)(j:uC)(i:i9)(g:nY:=by rfl):PMT X PX (Qg zTe):=
 Qer (QkU e j i g) (zCd (Qni (Qgf q)) h)
abbrev Z2(ma mb:MT):MT:=λd h=>(ma d h).bind λp=>match p.1 with|true=>jgc|false=>xg1
abbrev XD(ma mb:MT):MT:=λd h=>(ma d h).bind λp=>match p.1 with|true=>xqe|false=>jgc
abbrev J7(ma:MT):MT:=λd h=>(ma d h).bind λp=>sO (!p.1,p.2)
abbrev mIf(t:MT)(ma mb:ME):ME:=λd h=>(t d h).bind λp=>match p.1 with|true=>ma d p.2|false=>jgc
variable{rest:ā}{ta tb:MT}
abbrev PMW(X:Cx)(e:Expr)(m:MT):Prop:=PW X e xkb
def PMW.pt(h:PMW X e m):PMT X e m:=PW.pt h
def Qmq{K:Nk}(q:tIT K xqf σ H Q):QtL xqg xqh σ H Q:=by
 let#[R,d,h,w,n,m,st,e,k]:=q;show jt5;cases a with
 |true=>show Qng #[R1,d,i,w,n,f,BW g,j,qoc]
 |false=>cases j;show Qnf (k R1 H1 g f)
def QqF{K:Nk}(q:tIT K xqi σ H Q):tOr xqg xqh σ H Q:=by
 let#[R,d,h,w,n,m,st,e,k]:=q;show jt5;cases a with
 |true=>cases j;show Qng (k R1 H1 g f)
 |false=>show Qnf #[R1,d,i,w,n,f,BW g,j,qoc]
def Qiq(d:dZ):PMW X jO7 ta:=QlK d
def QmG(d:dZ):PMW X jO8 ta:=QoZ d
def Qkb(e:dZ)(d:PMW X (k5 zef) tb):PMW X (k5 eZ) xqf:=QiK (QoV e d) λ_ _ _=>Qmq
def Qn9(e:dZ)(d:PMW X (k8 zef) tb):PMW X (k8 eZ) xqi:=QiK (QsH e d) λ_ _ _=>QqF
def Qj3(j:dZ):PMT X qGg (J7 ta):=Qer (Qn7 j) <|by
 rintro o H Q ⟨R,d,h,w,p,i,st,e,k⟩
 show į a l m n e;show ï n #[R,d,h,a,l,i,st,m,λR1 H1 g f=>k R1 H1 g f]
def Qrs(n:PMT X c ta)(p:uC)(o:i9):þ qMe (mIf ta ma mb):=Q3 (Qhg n p o) <|by
 rintro r H Q ⟨R,d,h,w,j,m,st,e,k⟩
 show TJ t i q l e #[R,d,h,t,i,m,st,q,zr8];cases t with
 |true=>show Qng #[R1,d,i,w,j,f,BW g,l,jca]
 |false=>show Qnf #[R1,d,i,w,j,f,BW g,l,jca]
abbrev Qaw(h:MH):W->zc2
 |.non=>sO false
 |.bl b=>sO b
 |Â i=>sO jdb
 |Ü x=>zs4 (qD1 x)
 |ŋ=>xP
 |Ņ=>xP
 |B6=>xP
 |Ä n=>match h[n]? with|qu=>xP|some (jv d)=>jcb d|_=>nO
 |.ty _=>nO
abbrev JP(m:ME):MT:=λd h=>(m d h).bind λp=>(Qaw p.2 p.1).map λb=>zj5
def Rws.isEmpty{K:Nk}(r:ϥ):ws.isEmpty=vs.isEmpty:=by
 let:=r.length;cases ws<;>cases vs<;>simp at this ⊢
def QnZ{K:Nk}{v:V}{b:Bool}(j:Đ)(r:ù w)(e:Qaw h w=sO b):Qta K v H b:=by
 cases w with
 |non=>rw[r.non_eq];cases e;rfl
 |bl b=>rw[r.bl_eq];cases e;rfl
 |int i=>rw[r.int_eq];cases e;rfl
 |str x=>
  rw[r.str_eq];show qZ1
  ·rename_i q;show ï e #[q,rfl]
  ·cases e
 |tup l=>
  show zge a g f d j;cases e;show jse (jub jOh)
 |lst l=>
  let#[a,g,rfl,f,d]:=lM j;cases e;show HV jJ5
 |frz l=>
  let#[a,g,rfl,f,d]:=j.frzAt r;cases e;show HV jOh
 |ref n=>
  show qZ1
  ·show B3 l o e;let#[_,rfl,g,f,d]:=j.refAt r o;show HV jJ5
  ·show(B3 m o e,Š r,fy p f d j o);rw[r.2];show AT (ü #[p,f,?_]);let:=N7 d;cases m<;>cases p<;>simp at this ⊢
  ·cases e
 |ty _=>cases e
def QjV(n:uC)(m:jU1:=by intro _;rfl):PMT X a (JP ma):=
 Qer (Qg9 n m) λs H Q g=>by
  let#[R,f,h,w,u,l,st,e,k]:=g;show(į a t p r e,ť b o q r,#[R,f,h,a,_,l,st,p,qg i d j #[_,QnZ d j o,k R1 H1 i d]])
#print"-"
abbrev K7:Expr->Bool
 |xqj=>true
 |.SetComp ..=>true
 |.DictComp ..=>true
 |_=>false
def VQ(h:Sw):swapsWith e t l env=T5:=by
 show xg0
abbrev Qx:SM:=λa h=>Ar a h
abbrev Qn(a b:SM):SM:=λd h=>(a d h).bind λr=>match r with|.nx c e=>b c e|r=>sO r
abbrev QU(m:ME):SM:=λa h=>(m a h).map λp=>xxj
abbrev Zd(t:MT)(a b:SM):SM:=λc h=>(t c h).bind λp=>match p.1 with|true=>a c p.2|false=>b c p.2
abbrev QS(m:ME):SM:=λa h=>(m a h).map λp=>zle a
abbrev QF(i:Nat)(m:ME):SM:=λa h=>(m a h).map λp=>bt a p
abbrev Qmu(i:Nat)(f:Tw)(m:ME):SM:=λa h=>match a[i]? with
 |some zjd=>(m a h).bind λp=>(f x p.1 p.2).map λq=>bt a q
 |_=>nO
section
variable{X:Cx}{st:Stmt}{rest:AH}{a b:SM}{e:Expr}{m:ME}{pos:Pos}
def QlF:Qc1 X [] Qx:=Qft Qkk <|by
 rintro D d H ⟨R,c,h,r,f,s,e,k⟩
 cases e;show k R H d Χ f s
def Qpg{K:Nk}(q:ip (Qn a b)):Qt2 (tS K a) (tS K b) D σ H:=by
 let#[R,g,h,r,p,s,e,k]:=q;show ē j t f e;refine#[R,g,h,j,p,s,t,?_];cases j with
 |nx c d=>show λR1 H1 l n i o=>#[R1,c,d,r,i,o,f,ir k n]
 |rt w d=>show Ω f k
 |bk c d=>show Ω f k
 |ct c d=>show Ω f k
def Qgx(h1:PMS X st a)(h2:Qc1 X rest b):Qc1 X xp8 (Qn a b):=Qft (Qgk h1 h2) λ_ _ _=>Qpg
def Qmb(h1:PMS X st a):Qc1 X [st] a:=Qki h1
def Qho(l:TH)(j:Sw:=by rfl):jC xcd (QS m):=J0 (QlD l (VQ j)) <|by
 rintro D g H ⟨R,c,h,r,i,s,e,k⟩
 show vF w n p o e;show ï o #[R,c,h,w,n,i,s,p,λR1 H1 v f d _=>k R1 H1 g f d (s.mono f)]
def Qlq(f:TH):jC qA2 (QU m):=J0 (Qoa f) <|by
 rintro D l H ⟨R,c,h,r,d,s,e,k⟩
 show(vF w g j i e,ï i #[R,c,h,w,g,d,s,j,k])
def Qqz(p:PMT X c t)(u:Qc1 X n a)(q:Qc1 X l b):jC (.If c n l pos) (Zd t a b):=J0 (Qto p u q) <|by
 rintro D w H ⟨R,d,h,r,o,s,e,k⟩
 show TJ z i v j e #[R,d,h,z,i,o,s,v,zr8];cases z with
 |true=>show Qng #[R1,d,i,r,f,HK g,j,ir k g]
 |false=>show Qnf #[R1,d,i,r,f,HK g,j,ir k g]
def QkE(hN:X.N.Nodup)(hi:Ϙ)(l:j5)(p:TH)(n:Sw:=by rfl)(o:AY:=by show yv) :
  jC (eF [SU g]) jdg:=J0 (QjC hN hi l p (VQ n) o) <|by
 rintro D y H ⟨R,c,h,r,j,s,e,k⟩
 show(vF w q u t e,ï t #[R,c,h,w,q,j,s,u,qcc])
def QpT(c:ë zQd r):PIp X op r:=c
def QlC(hN:X.N.Nodup)(hi:Ϙ)(F:j5)(I:ë zQd r)(J:zc1)(L:TH)
  (p:AY:=by show yv):jC (qI9 t) (Qmu i f m):=
 J0 (QqL hN hi F L (QpT I) p) λD Y H A=>by
  let#[R,c,h,r,E,s,e,k]:=A;unfold Qmu at e;split at e
  ·rename_i B n;show(į w u U S e,vF z M Q P S);cases P;let#[v0,o,g]:=s.2 i _ n;refine#[v0,o,R,c,h,w,u,E,s,U,CD v d l];show J _ _ _ _ #[R1,u,B,w,z,M,l,CW d g,rv,Q,λR2 H2 y q j C=>k R2 H2 _ (Ę d q) j ((s.mono (Ę d q)).set C)]
  ·cases e
#print"-"
abbrev QjL(r:Tb):Þ:=match r with|some zeg=>yo|some (.nx _ h)=>iK h|_=>nO
abbrev QD(more:Nat)(m:SM):FM:=λa h=>QjL (m (a.map sO++List.replicate more nO) h)
def Rst.start{K:Nk}(r:ϥ)(k:Nat)(hk:N.length=ws.length+k):Rst K R (ws.map sO++List.replicate k nO) zT9:=by
 show Ž c r;unfold L2.start;refine#[by simp[hk,c],Ú i w e]
 by_cases b:i<ws.length
 ·rw[NC g6]at e;rw[NC (by simpa[<-c]using b)];rw[Np]at e ⊢;show(ť h a g e,ϧ v f d r a,#[v,SC f,d])
 show jBc b e
section
variable{P:Program}{w:World}{K:Nk}{mg:Ē}{base:Heap}
def Qpq{st:Stmt}{N ps:Á}{m:SM}(F:za0 c)(S:fD)(hN:zHe)
  (g:∀(b:Value) (A:Around) (a:Ϟ) (s:Shared) (H:Hp) (E:XK),zG k c b->Qc1 (Qf9 CX0 P w K mg base N c AC f b A a s H E).nox BR m) :
  FnOk P w K mg base CX0 (k+1) f fd ps (spM K ps.length zVa):=by
 refine F.ok S (λv H Q E q=>?_) (λb A a s H v Q E y q=>?_)
 ·let#[R,u,h,w,B,l,j,d,_]:=q;show(uW d,l)
 ·refine#[_,g b A a s H E y,?_];let#[R,u,h,w,B,l,j,d,e,o]:=q;let st:=Rst.start (N:=N) d more (by rw[hN,l]);unfold QD QjL at e;split at e
  ·rename_i C z n;show ï e #[R,_,h,_,j,st,n,o]
  ·rename_i p z n;show ï e #[R,_,h,_,j,st,n,λR1 H1 r t i _=>o R1 H1 .non t i Rw.non]
  ·cases e
#print"-"
section
variable{X:Cx}{CX:CXT}{k:Nat}{f:Addr}{fd:FuncData}{ps:Á}{g:FM}{E:XK}{x:Str}{p pos:Pos}{e:Expr}{es:ā}{ms:MA}
abbrev Qh(n:Nat)(g:FM)(ms:MA):ME:=mFn (λa h=>if a.length=n then g a h else nO) ms
def QdL{K:Nk}(q:iA xkd):Qkx (spM K n g) [] E (tIA K ms) σ H Q:=by
 refine Ub xg2 (Ú l H1 b);let#[R,h,c,w,j,d,a,e,k]:=b;show yT e
 ·rename_i i;show#[R,c,h,w,j,i,d,by rw[EN];show a,e,k]
 ·cases e
def Qm6(F:jYh)(d:Sv)(i:΢)(h:RU)(hk:Ru)(l:qSh)(c:He)
  (m:vp) (b:ŭ:=by decide) (j:Ab:=by rfl) (a:Ac:=by rfl) :
  þ gN (Qh ps.length g ms):=Q3 (QkB F d i h hk l .nil c m b (Zk j) jk2) λ_ _ _=>QdL
def Qhn(F:jYh)(i:Sv)(l:΢)(j:RU)(hk:Ru)(m:qSh)(d:He)
  (a:ŭ:=by decide):þ nc (Qh ps.length g Qc):=Q3 (Qgj F i l j hk m .nil d a) λn H Q q=>by
 let#[R,b,h,o,r,c,st,e,k]:=QdL (E:=E) q;show qsi c
#print"-"
section
variable{X:Cx}{x:Str}{p pos:Pos}{e:Expr}{es:ā}{ms:MA}{id T:String}{r:qE}{f:Ŭ}
def QhO(m:Ĵ zO r)(j:xy0)(i:΢)(h:T8)(d:zw0)(n:vp)(g:j9:=by decide)(b:ŭ:=by decide)
  (l:Ab:=by rfl) (a:Ac:=by rfl):zud:=
 Q3 (Qio m i h d n g b (Zk l) jk2) qkg
def QfK(m:Ĵ xK r)(j:xy0)(i:΢)(h:T8)(d:Mj)(n:vp)(g:j9:=by decide)(b:ŭ:=by decide)
  (l:Ab:=by rfl) (a:Ac:=by rfl):zud:=
 Q3 (Qfu m i h d n g b (Zk l) jk2) qkg
#print"-"
inductive Src where
 |l (n:Nat)
 |d (n:Nat)
 |r (n:Nat)
 |v (n:Nat)
 |i (n:Nat)
 |z (n m a b:Nat)
abbrev Src.ok(items:Ã)(h:MH):Src->Prop
 |.l n=>h[n]?=sO (.lst items)
 |.d n=>∃c,br/\c.map (·.1)=items
 |.r n=>h[n]?=sO (.lst items.reverse)
 |.v n=>∃c,br/\c.map (·.2)=items
 |.i n=>∃c,br/\c.map (λp=>Î [p.1,p.2])=items
 |.z n m a b=>∃as bs,h[n]?=sO xy1/\h[m]?=sO (.lst bs)/\(as.zip bs).map (λq=>Î [q.1,q.2])=items/\as.length=a/\bs.length=b
abbrev live(src:ji)(items:Ã)(h:MH):Prop:=∀n,src=sO n->n.ok items h
noncomputable abbrev MI:=jfj (Ã×ji×MH)
structure ItOk(K:Nk)(R:Rn)(J:It)(items:Ã)(src:ji):Prop where
 go:∀i w R' h H,Af->SZ H->Bz->zmj->zha
 yld:∀i w R' h H x H',Af->SZ H->Bz->zmj->zhb H'->∃R'',Ext R' R''/\Rh K R'' h H'/\Rw K R'' w x
 stop:∀i R' h H,Af->SZ H->Bz->items.length<=i->zde
abbrev tII(K:Nk)(m:MI):TI:=λf H C=>∃R a h items b d,Đ/\SJ f/\m a h=sO (items,b,d)/\∀c e J,AO c->Rh K c d e->ItOk K c J items b->C J e
abbrev PMI(X:Cx)(a iter:Expr)(m:MI):Prop:=PI X a iter (tII X.K m)
def WE(h:PI X b iter t)(i:∀σ H C,t' σ H C->t σ H C):PI X b iter t':=pG C
noncomputable abbrev MG:=W->MSt->MH->Option MSt
abbrev tIG(K:Nk)(b:MG):TG:=λv g H C=>∃R a h w c,Đ/\SJ g/\ù w/\b w a h=sO c/\∀e f d,AO e->Rh K e h f->Rst K e c d->C d f
abbrev PMG(X:Cx)(a:Expr)(b:MG):Prop:=PG X a (tIG X.K b)
def QiX(h:PG X b t)(i:∀v σ H C,t' v σ H C->t v σ H C):PG X b t':=λa s σ H v u C I r q=>h a s σ H v u C I r (i _ _ _ _ q)
abbrev QM(i:Nat):MG:=λw a _=>sO (a.set i uN)
def Qgn(hN:X.N.Nodup)(hi:Ϙ)(d:j5)(f:AY:=by show yv) :
  PMG X yV (QM i):=QiX (Qf4 hN hi d f) <|by
 rintro v g H C ⟨R,a,h,w,b,c,st,rw,e,k⟩
 cases e;show ŀ c (st.set rw)
open Classical in
set_option backward.eqns.deepRecursiveSplit false in
abbrev Zt(items:Ã)(src:ji)(b:MG)(body:SM):Ã->SM
 |[],σ,h=>if Bz then Mw else nO
 | w::r,σ,h=>if Bz then(b w σ h).bind λσ1=>(body σ1 h).bind λz=>match z with
   |.nx σ2 h2=>zGf σ2 h2
   |.ct σ2 h2=>zGf σ2 h2
   |.bk σ2 h2=>Pu
   |.rt v h2=>AG h2
  else nO
abbrev Jd(mi:MI)(b:MG)(body:SM):SM:=λa h=>(mi a h).bind λp=>Zt p.1 p.2.1 b body p.1 a p.2.2
section
variable{X:Cx}{tg iter:Expr}{body:AH}{mi:MI}{b:MG}{m:SM}{pos:Pos}
def Qpy{K:Nk}(q:ip xke):QuO xr0 xy3 (tS K m) D σ H:=by
 let#[R,A,h,r,rh,s,e,k]:=q;show jF8 t;refine#[R,A,h,items,t,h1,rh,s,e1,λR1 H1 J x1 ae it=>?_];refine#[λi n σ H=>qZ2/\∃R2 g l,zfe/\Rh K R2 l H/\Rst K R2 g σ/\∃r,Zt items t b m qZ3 g l=sO r/\Hg R2,#[items.length,Ç,R1,A,h1,CV,ae,HK x1,r,ø e2,ir k x1],?_]
 rintro i n E H2 ⟨ah,R2,g,l,I,j,s2,r2,d,M⟩
 by_cases N:xg3
 ·obtain⟨w,hw⟩:∃w,zmj:=#[jgd,Nl N]
  let hd:zai=w::qZ4:=by
   rw[Ek N];rw[Nl N]at hw;cases hw;rfl
  show qGh
  ·rename_i S;show(ē C e4 e5 d,ē z e6 U e5);show AT #[it.go i w R2 l H2 I j S hw,λF Y=>∃y B h4,Ext R1 y/\Rh K y h4 Y/\Rst K y B F/\∃r,Zt items t b m (items.drop (i+1)) B h4=sO r/\Hg y,λF Y hn=>#[n-1,Ė,Ė,hn],λx Y hy=>?_];let#[y,p,ab,Z]:=it.yld i w R2 l H2 x Y I j S hw hy;refine#[y,g,l,w,C,ab,s2.mono p,Z,e4,λR4 H4 af u aa s4=>?_];refine#[R4,C,l,z,aa,s4,e6,?_];cases z with
   |nx f P=>show jSh
   |ct f P=>show jSh
   |bk f P=>cases U;show λQ H5 a o c L=>M Q H5 a (TW p u o) c L
   |rt v P=>cases U;show After.ext M (Ę p u)
  ·cases d
 ·let hd:zai=[]:=DF (AM N);show qGh
  ·show(Α S d,đ #[it.stop i R2 l H2 I j S (AM N),M R2 H2 E Χ j s2])
  ·cases d
def QlB(c:zF)(e:ı)(hi:ka)(d:lC X)(f:xr1)
  (a:Br:=by intro _;rfl):jC qyh xke:=J0 (Qpe c e hi d f a) λ_ _ _=>Qpy
#print"-"
set_option backward.eqns.deepRecursiveSplit false in
abbrev Qo(t:MT)(body:SM):Nat->SM
 |0,_,_=>nO
 | n+1,σ,h=>(t σ h).bind λp=>match p.1 with
  |false=>sO (.nx σ p.2)
  |true=>(body σ p.2).bind λz=>match z with
   |.nx σ2 h2=>zUe n
   |.ct σ2 h2=>zUe n
   |.bk σ2 h2=>Pu
   |.rt v h2=>AG h2
section
variable{X:Cx}{c:Expr}{body:AH}{t:MT}{m:SM}{pos:Pos}
def QiD{K:Nk}(q:ip xr2):Qi1 (tIT K t) (tS K m) D σ H:=by
 let#[R,E,h,r,Z,s,e,k]:=q;refine#[λn σ H=>∃R2 b B,Rh K R2 B H/\Rst K R2 b σ/\∃r,Qo t m n b B=sO r/\Hg R2,#[n,R,E,h,Z,s,r,e,k],?_]
 rintro n j H2 ⟨R2,b,B,I,F,N,J,w⟩
 cases n with
 |zero=>cases J
 | succ n=>
  unfold Qo at J;show TJ z Q e3 S J #[R2,b,B,z,Q,I,F,e3,ś U H3 g u];cases z with
  |false=>
   cases S;show Qnf (w U H3 j g u (F.mono g))
  |true=>
   show ē y e5 C S;refine Qng #[λl Y=>∃L i P,Rh K L P Y/\Rst K L i l/\∃r,Qo t m n i P=sO r/\Hg L,λl Y hn=>#[n,N6 _,hn],?_];refine#[U,b,Q,y,u,F.mono g,e5,?_];cases y with
   |nx f x=>show jXj
   |ct f x=>show jXj
   |bk f x=>cases C;show λA M a o d p=>w A M a (Ę g o) d p
   |rt v x=>cases C;show After.ext w g
def QdG(n:Nat)(a:zF)(b:PMT X c t)(d:xr1):jC qEg xr2:=J0 (Qih a b d) λ_ _ _=>QiD
#print"-"
section
variable{prog:Program}{w:World}{A:Around}{E:Ô}{R:w9}{s:Shared}
def Qao(I:Nat->Ϣ)
  (q:∀n s,I n s->wpAny ŝ A (pyNext it) (λr d=>match r with
   |none=>R qIh d
   | è v=>wpAny ŝ A (letOwnedTupleGo target it v) (λ_ b=>wpAny ŝ A (assign target env v) (λ_ i=>
     wpAny ŝ A (forIn t true λc r=>if r=true then do let ok <-isTrue c env (uJ c);pure qhc else jq0) (λok a=>
      if ok=true then wpAny ŝ A (uJ B) (λx g=>
       tP A (call (.builtin "list.append") [C,x]) (λ_ f=>∃m,m<n/\I m f) j3 g) j3 a
      else∃m,m<n/\I m a) j3 i) j3 b) j3 d) j3 s)
  (n:Nat) (h:I n s) :
  ff (.compLoop qg9 0 it C env) R s:=by
 refine codeAny_loop rfl I (λn s hI=>?_) n h;apply wpAny _ A ((compTurn qg9 0 it C env).onRaise (λx=>do noteFrame x env;theTreesLotGoes x)) _ _ s;refine wpAny_noted ?_;rw[compTurn_list];show Ê (Lv (Na (Eb (q n s hI) (jy r d l) Pm)));cases r with
 |none=>show Nn l
 | some v=>
  show Ê (Eb l (λ_ b p=>?_) Pm);show ĵ (Eb p (λ_ i z=>Na (Eb z (λok a j=>?_) Pm)) Pm);cases ok with
  |false=>show ύ (ϊ j)
  |true=>
   show Na (Na (Eb j (λx g y=>Na (Eb y (λ_ f u=>Nn (CJ (ϊ u))) Pm)) Pm))
#print"-"
def sz{h:Heap}(e:yf)(a:h.objs.size<=n):¬b=n:=λz=>by
 let c:@LT.lt Nat instLTNat b h.objs.size:=NL e;subst z;show El _ (Ng c a)
noncomputable abbrev blk(X:Cx)(a:Scope)(b:Cz)(Nb:Á)(s₀:Shared)(H₀:Hp)(C:Addr)(ex:ς)(pn:Ý):Cx:=
 { X with N:=Nb,s₀:=s₀,H₀:=H₀,env:=compEnvC a b C X.env,outer:=X.stack,stack:=X.stack,ex:=ex,fn:=λ_=>false,pn:=pn,xe:=zad }
structure BlkOk(X:Cx)(scope:Scope)(cl:Cz)(Nb:Á)(cp:ϓ):Prop where
 clos:closureFor scope X.env=pure cl
 cell:∀y∈scope.names,zY4
 kind:scope.kind=.function
 names:∀y∈scope.names,y.2=.local->scope.names.lookup y.1=CS
 sub:∀x c,zPe->jJ
 has:∀x,jHa->∃c,zPe
 len:zL9
 cap:∀(i j:Nat) (x:Str),qL3->Nb[i]?=sO x->X.N[j]?=sO x/\k6/\jH5/\jHa
abbrev Gd(cp:ϓ)(σ:L2.St):L2.St:=jta
abbrev Qiy(l:TI)(cp:ϓ)(g:TG)(tt:TT)(te:TE):TE:=λf H Q=>l f H λJ H1=>∃W:Nat->Nat->Ø->L2.St->ϒ,(∃m,W 0 m [] (Gd cp f) H1)/\∀i m a e H,W i m a e H ->
 (zde/\∀D,H D=nO->Q qz joj) \/
 (zha/\∀x j,zhb j->g x e j λc H2=>tt c H2 λb h=>if Hx then te c h λv n=>yR/\∃d,d<m/\W (i+1) d (a++[v]) c n else∃d,d<m/\W (i+1) d a c h)
def Inv.track(I:Ĩ d)(g:H D=nO)(h0:X.s₀.heap.objs.size<=D)(hL:X.env.locals≠D)(l:∀x c,jJ->c≠D)
  (j:∀p∈X.pn++d,p.1≠D) (ob:ObjOk X.prog X.w (Ĉ D o) s.heap D o):ţ d σ (Ĉ D o) s where
 ok:=I.ok
 os:=I.os
 bare:=I.bare
 base:={
  keep:=I.base.keep
  slot:=I.base.slot
  free:=λb q e n nx=>by
   let:b≠D:=sz e h0;rw[Qz this];show I.base.free b q e n nx
  there:=I.base.there
  tups:=λb h e=>by
   let q:=I.base.tups b h e;show nH z q
  frzs:=λb q u e=>by
   let z:=I.base.frzs b q u e;show nH y z
  tbls:=λb i e=>by
   let#[more,q]:=I.base.tbls b i e
   show#[more,j8 (λz=>zOe q) q] }
 loc:=I.loc
 cell:=I.cell
 free:=by rw[Qz hL];show I.free
 freeC:=λx c e=>by rw[Qz (l x c e)];show ji7 e
 pin:=λp f=>by
  let#[a,b,c]:=zg f;show#[a,j8 (j p f) b,c]
 hok:=λa u e=>by
  show Ě z a D
  ·subst z;rw[Js]at e;cases e;show ob
  ·rw[Qz z]at e;refine(I.hok a u e).stay (zZh q) (AQ b q) (jy b h q)
   ·show nH y q
   ·show nH y q
 len:=I.len
section
variable{X:Cx}{elt tg iter:Expr}{ifs:ā}{scope:Scope}{pos:Pos}{cl:Cz}{Nb:Á}{cp:ϓ}{wi:TI}{g:TG}{tt:TT}{te:TE}
def Cx.Ok.blk(B:Cq)(I:Ĩ d)(f:∀b∈l,HI d H)(i:∀b∈l,Ra)(j:qP4) :
  (blk X scope cl Nb s H C l p).Ok where
 mod:=I.ok.mod
 kind:=B.kind
 glob:=I.ok.glob
 blt:=I.ok.blt
 above:=j
 inj:=λx y c n m=>I.ok.inj x y c (B.sub x c n) (B.sub y c m)
 has:=λx h=>B.has x h
 cab:=λx c h=>ϟ h Å
 hd:=I.ok.hd
 frames:=I.ok.frames
 stk:=iw
 exf:=Ľ b a #[λz=>by let:=i b a;rw[z]at this;show č j xcj,qo0 f a]
 bs:=I.bs
 bsz:=qYf
 noex:=λb o e a=>by
  rcases(f b a).2.2.2.1 with z|z
  ·show I.ok.noex b o e z
  ·show sz e (Nh I.ok.bsz z) rfl
 exfs:=λb a z=>by
  let:=I.stkSub b z
  rcases NJ.mp this with q|q
  ·show(f b a).2.1 q
  ·show(f b a).2.2.1 q
 funs:=I.stack
 frf:=λb a=>I.stkFree b a
def Qe6{cp:ϓ}{σ:L2.St}{i:Nat}{v:V}(e:(Gd cp σ)[i]?=sO CY):∃j,qL3/\σ[j]?=sO CY:=by
 unfold Gd at e;rw[Np]at e;show Bw o b a e;cases o with
 |none=>cases a
 |some j=>
  show(HB j b,q8 a);split at a
  ·rename_i u hu;rw[hu,a]
  ·cases a
def Inv.blk{H:Hp}{C:Addr}{M:ς}{tk:Nat}(B:Cq)(I:Ĩ f)(P:∀b∈M,HI f H)(E:∀b∈M,Ra)
  (F:qP4) (A:h'.Ns C m) (hk:∀b o,TC):Inv (zx7 s H M (X.pn++f)) [] xr3 H { s with heap:=h',toks:=tk } where
 ok:=Cx.Ok.blk B I P E F
 os:=rfl
 bare:=I.bare
 base:=Un.kept hk
 loc:=by
  refine#[m,A,λi x v hN e hv=>?_];let#[j,Y,U]:=Qe6 e;let#[S,t,D,w]:=B.cap i j x Y hN;let#[m0,n0,lk]:=I.loc;let#[u,r,l]:=lk j x v S U t;show HB u r
  rcases l with⟨h,_⟩|⟨_,c,Q,n⟩
  ·rcases D with z|z<;>rw[z]at h<;>cases h
  ·show jt4 (HJ w);let#[Z,y]:=B.has x w;let:=B.sub x Z y;show Cv Q
   show#[c,y,by
    show BA o L J n #[o,hk _ _ L,J]]
 cell:=λx c e=>by
  let#[v,o,L,J]:=iL I zGa;show#[v,o,hk _ _ L,J]
 free:=zlf I F
 freeC:=λx c e=>ji7 zGa
 pin:=λp N=>by
  rw[EN]at N;let#[a,b,c,d,e]:=zg N;refine#[hk _ _ a,b,ļ z,ļ z,e]
  ·let:=NL a;rw[z]at this;show č F xcj
  ·show T3 (I.stkSub _ z) q
   ·show c q
   ·show d q
 hok:=I.hok.kept hk
 len:=by unfold Gd;rw[Nq];show B.len
abbrev Qts(X:Cx)(a:Ý)(σ:L2.St)(use:Option (Value->Sem Unit))(Q:VK)(Q':Ô):Prop:=
 ∀(D C:Addr) (d:Hp) (b:Shared) (m:Ē),ţ a σ d b->b.heap.Ns C m->d C=nO->¬C=X.env.locals->X.s₀.heap.objs.size<=C->(∀x c,jJ->c≠C)->(∀p∈X.pn++a,p.1≠C)->Q qz d ->
  jXa b
def Qbu(hc:ı)(B:Cq)(hi:rq)(hg:∀S Y C ex pn,PG mW tg g)
  (ht:∀S Y C ex pn,∀(j:Ý) (s:Shared) (τ:L2.St) (H:Hp) (Q:qq),Inv mW j τ H s->tt τ H Q ->
   qP zx5 (TP mW j τ Q) j3)
  (he:∀S Y C ex pn,PE mW elt te) (hs:Br)
  (I:Ĩ j) (h:Qiy wi cp g tt te σ H Q) (a5:Qts X j σ use Q Q') :
  ĩ (comprehension Pd scope X.env bo xg4 false zMh use) Q':=by
 refine wpAny_comprehension_free (use:=use) rfl hs B.clos B.kind B.names (Eb (hi j s σ H _ I h) (λxv bn aa=>Eb aa (λbp f a2=>?_) (AD e)) (AD e));let#[it,fp,tn,J,H2,rfl,I2,T,as,f2,W,#[m0,w0],az]:=a2
 let av:∀b∈fp,b<f.heap.objs.size:=λb E=>by
  let#[o,e,_]:=T.obj _ _ as b E;show NL e
 refine ED (wpAny_newFunctionEnv B.cell (by intro y hy;simp at hy) (λaa N F=>?_) B.kind);dsimp only at N F ⊢;generalize aw:f.heap.push { cls:=Ī,dict:=nO,data:=jDh }=G2 at N F ⊢;let am:G2.objs.size=f.heap.objs.size+1:=by rw[<-aw,DY]
 generalize bf:G2.objs.size=C at N F ⊢;rw[bf]at am;let ae:qP7:=SK Ů xg5
 let aj:f.heap.objs.size≠C:=by show NK (Ng B9 xg5)
 let old:∀b o,ů f b=sO o->aa.get? b=sO o:=λb o e=>F.extBut b o (sz e ae) (Nr _ (aw▸Ś e));let ao:aa.get? f.heap.objs.size=sO { cls:=Ī,data:=jDh }:=F.extBut _ _ aj (Nr _ (aw▸Ű));generalize hD:f.heap.objs.size=D at ao aj ae am ⊢;let m:f.heap.objs.size<=D:=Nv hD;let P:qP7:=Nh m ae;let I3:=Inv.blk (tk:=jD6) B I2 f2 av (C:=C) (Nh (Nv hD) ae) N old;let ap:D∉fp:=λz=>El _ (Ng (av D z) m);let a6:C∉fp:=λz=>El _ (Ng (av C z) P)
 let ay:∀x c,zPe->c≠D:=λx c e z=>by
  let#[v,o,h3,_]:=iL I2 zGa;show sz h3 m z
 let aq:∀p∈X.pn++j,p.1≠D:=qL4 m;let a8:∀p∈X.pn++j,p.1≠C:=qL4 P
 let bh:D∉zXd:=λz=>by
  show T3 xd0  q
  ·show zEc q D m
  ·show I2.nofs m q
 let ak:∀{t:Hp} {pl:Ý},bB->(∀p∈pl,p.1=D)->∀b∈fp,Qc5 Pw pl t b:=λ{t pl} hn bc b E=>
  #[hn b E,λ(z:b=C)=>a6 jge,λz=>by
   show T3 xd0  q
   ·show(f2 b E).2.1 q
   ·show(f2 b E).2.2.1 q,ß E,qo0 f2 E,λp U z=>by
   show η U q
   ·show(f2 b E).2.2.2.2.2 p q z
   ·rw[bc p q]at z;show ap jge]
 let bq:∀{t:Hp},bB->∀b∈fp,HI j t:=qEi E
 let fin:∀{τ:L2.St} {t:Hp} {M:Shared} {L:Ø} {l:Ï} {n:Nat} {mC:Ē},mf τ t M->t D=nO->ů M D=sO { cls:=Ī,data:=.seq l.toArray n }->Vals L l->qS5->M.heap.Ns C mC ->
   (∀D,t D=nO->Q qz jF6)->jXa M:=by
  intro τ t M L l n mC Ib al ax r hz bd q;let Ie:ţ j σ t M:=I2.call' (ch:=fp) (Ib.os) Ib.base Ib.hok Ib.bare λb E=>qi9 f2 E
  let a3:X.s₀.heap.objs.size<=f.heap.objs.size:=I2.sz
  let It:ţ j σ jF6 M:=Inv.track Ie al (Nh a3 m) (λz=>zEc z D m) (λx c e z=>by
   show jyg m) aq #[hz,l,n,r,ax]
  show a5 D C _ M mC It bd (by rw[Qz (N8 aj)];show Ib.free) (λz=>zEc z C P) (Nh a3 P) (λx c e z=>by
   show jyg P) a8 (q D al)
 let an:∀ah:Shared,ah={ f with heap:=aa,toks:=jD6 } ->
   codeAny qK X.A (.compLoop Pd 0 PZ qz jT9)
    (compPost qK X.A X.xe use Q' qz C) ah:=by
  rintro ah rfl
  refine Qao (λn M=>∃i τ t L l k,mf τ t M/\iJ M/\bB/\t D=nO/\ů M D=sO { cls:=Ī,data:=.seq (l:Ï).toArray k }/\Vals L l/\qS5/\W i n L τ t) ?_ m0
   #[0,Gd cp σ,H2,[],[],_,I3,T.keep _ _ _ as qF8,ur E f2,zlf I2 m,ao,.nil,NQ _,w0]
  rintro n s3 ⟨i,τ,H3,L,l,k,Ib,a0,a7,al,ax,r3,au,w3⟩
  let a1:∀{Z:L2.St} {t:Hp} {M:Shared},mf Z t M->t D=nO->ju0 ->
    qe3:=λ{Z t M} I' hn ho=>I'.pins_of λp U=>by
   rw[Nz]at U;show Ϗ U #[ho,hn,aj,bh,by intro v;simp]
  let a9:=a1 Ib al ax;let ab:∀p∈[(D,({ cls:=Ī,data:=zA1 }:Obj))],p.1=D:=λp U=>by rw[Nz]at U;subst U;rfl
  let ba:∀{Z:L2.St} {t:Hp} {M:Shared},qe3->jq1:=λI'=>by
   let#[a,b,_]:=I'.pin (D,_) mV;show C6 a b
  rcases az i n L τ H3 w3 with⟨stop,qn⟩|⟨go,step⟩
  ·refine Eb (T.done Pw rfl rfl rfl hc i _ s3 τ H3 j3 a9 xr4 a0 stop) (jy r s4 xwi) qB;subst hr;let#[o4,n4]:=ba I4;let#[m4,bb,_]:=I4.loc;let bm:mf τ H3 s4:=I4.pins_of jq2
   show fin bm n4 o4 r3 au bb qn
  ·refine Eb (T.item Pw rfl rfl rfl hc i _ s3 τ H3 j3 a9 xr4 a0 go) (jy r s4 xk2) qB;subst hr;refine Eb h4 (λ_ s5 z1=>?_) qB;let#[x,H5,I5,r5,y5,ar,bg]:=z1;let bj:=I5.pinned (ak bg ab) (T.obj _ _ ar);refine Eb (hg f H2 C fp fi _ s5 τ H5 x u _ bj r5 qYa) (λ_ s6 z0=>?_) qB;let#[af,H6,I6,q6]:=z0;refine Eb (ht f H2 C fp fi _ s6 af H6 _ I6 q6) (λok s7 #[H7,I7,q7]=>?_) qB
   let ai:∀{Z:L2.St} {t:Hp} {M:Shared},Inv Pw ([jAj]++GB fp s5.heap) Z t M->tn (i+1) M.heap/\bB/\jq1:=λ{Z t M} I'=>by
    refine#[T.keep _ _ _ ar (jOd E I'),Ó b E,?_]
    ·let#[o,e,d]:=T.obj _ _ ar b E;show(I'.pin (b,o) (zIa E)).2.1
    ·let#[a,b,_]:=I'.pin jAj (NS _ (Tt zAf));show C6 a b
   cases ok with
   |false=>
    rw[Õ N5]at q7 ⊢;let#[m',hm,w7]:=q7;let#[t7,f7,o7,n7]:=ai I7;show#[m',hm,i+1,af,H7,L,l,k,I7.pins_of (λp U=>B0 U),t7,f7,n7,o7,r3,au,w7]
   | true=>
    rw[Ĥ]at q7 ⊢;refine Eb (he f H2 C fp fi _ s7 af H7 _ I7 q7) (jy y s8 z1) qB;let#[v8,H8,I8,r8,be,m',hm,w8]:=z1;let#[t8,f8,o8,n8]:=ai I8;show Ž a4 r3;refine IV LP (ϖ o8) YaY xxb (Ybp D l.toArray k y (by rw[ND];show Nh (ī a4) au)) (HJ o8);let q:=YbB o8 (·.push y);let hf:l.toArray.push y=(l++[y]).toArray:=Ç
    rw[hf]at q;let bi:Inv Pw [] af H8 s8:=I8.pins_of jq2
    let I9:Inv Pw [] af H8 { s8 with heap:=s8.heap.update D (Obj.mapSeq (·.push y)),toks:=s8.toks }:=
     bi.turned (it:=D) (λb o E e=>(EL s8.heap (Obj.mapSeq (·.push y)) (N8 E)).trans e) n8 aj (ü m) (λx c e=>ay x c e) λp U=>by
      rw[EN]at U;show aq p U
    refine#[m',hm,i+1,af,H8,L++[v8],l++[y],_,I9,T.keep _ _ _ t8 (λb E o e=>(EL s8.heap (Obj.mapSeq (·.push y)) (λ(z:D=b)=>ap jge)).trans e),f8,n8,q,r3.append (dt r8),by rw[NH,Em];show be,w8]
 show codeAny_compStart_list xr5 (T.self _ 0 _ _ _ (T.keep _ _ _ as qF8) xr5)
def QeB(L:ı)(B:Cq)(hi:rq)(F:∀a d C l j,PG o5 tg g)
  (v:∀a d C l j,∀(f:Ý) (s:Shared) (n:L2.St) (H:Hp) (Q:qq),Inv o5 f n H s->tt n H Q ->
   qP zx5 (TP o5 f n Q) j3)
  (J:∀a d C l j,PE o5 elt te) (y:Br:=by intro _;rfl) :
  Ĺ Pd qL5:=by
 show Č f Y Q;rw[eval_ListComp];refine Qbu L B hi F v J y I h λD C U u m S p E hL N i z q=>#[m,p,Ó P t]
 show#[Ä D,U,S.turned (t':=u.toks) (it:=C) (λb o M e=>t.extBut b o M e) E hL (ü N) i z,rfl,q]
def Qey(hN:X.N.Nodup)(S:Ϙ)(hx:j5)(hf:AY)(L:swapsWith Pd (sO zJ7) u.line X.env=jdh)
  (hc:ı) (B:Cq) (hi:rq) (hg:∀d f C t p,PG wz tg g)
  (ht:∀d f C t p,∀(l:Ý) (s:Shared) (F:L2.St) (H:Hp) (Q:qq),Inv wz l F H s->tt F H Q ->
   qP zx5 (TP wz l F Q) j3)
  (he:∀d f C t p,PE wz elt te) (hs:Br:=by intro _;rfl) :
  PS X (.Assign [SU j] Pd u) (QqS qL5 zi7):=by
 show Č l σ D;rw[exec_Assign_Name_used _ _ _ _ L];show Ê (Lv zbf);apply wpAny _ X.A (do let _ <-comprehension Pd scope X.env _ xg4 false zMh (sO qpi)) _ _ s;show ĵ (Eb (Qbu (use:=sO qpi) (Q':=λ_ E=>SP X l D .next E) hc B hi hg ht he hs I h λU C H' E m I' M hn hL h0 n hp q=>?_) (λ_ E hq=>Nn (Nn hq)) (AD e));apply wpAny _ X.A (assign zJ7 X.env (ý U)) _ _ E;refine wpAny_assign_Name (Gw (v:=Ä U) I' hN S hx rfl (jy Z I5 #[a,Y,y]) hf)
 let P:C≠a:=λz=>by
  show Ϩ y
  ·show hL (Ę z y)
  ·show n x a y z.symm
 show#[m,M.sameBut Y P,λaa J=>#[_,H',I5.turned (t':=Z.toks) (it:=C) (λb o hb e=>J.extBut b o hb e) hn hL (ü h0) n hp,q]]
#print"-"
abbrev IterR(X:Cx)(c:Expr)(r:V->qxh):Prop:=
 ∀(a:Ý) (s:Shared) (b:L2.St) (H:Hp) (x:V) (v:Value) (C:gx),Η->jk->r x H C->ĩ (qb v) (PIE X a b c C)
section
variable{X:Cx}{tg:Expr}
def IterR.or(h:cA r)(h':cA d):cA (λx H C=>r x H C\/d x H C):=λa s b H x v C I c q=>by
 show Ϩ q
 ·show h a s b H x v C I c q
 ·show h' a s b H x v C I c q
def it_list:cA (λx H C=>∃a,jH/\(∃xs,rS)/\C (Itl X.K a) H):=by
 intro d c l H1 x v C I1 f g;show jJ6 g f;let#[h,rv,p,n]:=I1.list i;refine FX p.isList ?_;refine#[c.heap.objs.size,kC c,_,_,H1,rfl,zZ c,QeQ a _,Tv,Ó b j,q];show jM6
def Qqc:cA (λx H C=>∃a,jH/\(∃xs,rV)/\C (Itt X.K a) H):=by
 intro f c l H1 x v C I1 g h;show jJ6 h g;let#[d,rv,p,n]:=I1.tuple i;refine IJ (zAc c a d p) ?_;refine#[c.heap.objs.size,kC c,_,_,H1,rfl,zZ c,QcI a _,Tv,Ó b j,q];show jM6
abbrev Its(x:Str):It:=#[λi _=>zVb,λi H v a=>a=H/\∃c,jdi=sO c/\v=Ü dY,λi _=>zTf]
abbrev U4(x:Str):Ã:=x.cps.toList.map λc=>Ü dY
def Qgz{P:Program}{w:World}{K:Nk}{tg:Expr}(it:Addr)(x:Str)(ty:String)(t:Tok)(f:qGi\/qW7) :
  Turn P w K tg (Its x) [it] it (λi h=>i<=x.cps.size/\h.IsStrIter it ty x t i) where
 mem:=Ç
 obj:=λi h st b j=>by
  show zm5
 keep:=λi h l st k=>#[st.1,let#[o,ho,r]:=st.2;#[o,k it Å o ho,r]]
 item:=by
  intro X M hw N L i a s J H E I q st p;show(qL6,HR q);let g:zVb:=p;let m:jdi=sO (x.cps[i]'g):=NT g
  let fin:∀l:Heap,l.IsStrIter it ty x t (i+1)->zM9 l->∃u,sO (Value.str qPh s.toks)=sO u/\wpAny qK X.A qn5 (λ_ U=>∃y S,ţ a J S U/\ó y/\(Its x).yld i H y S/\(i+1<=x.cps.size/\U.heap.IsStrIter it ty x t (i+1))/\∀b∈[it],S b=nO) E { s with heap:=l,toks:=jg }:=λl n Z=>by
   let I1:Inv X a J H { s with heap:=l,toks:=jg }:=I.turned (P8 o j e Z) F f1 D C B;show kA n;refine#[_,rfl,G4 (s:={ s with heap:=l,toks:=jg }) e c d (by rcases f with z|z<;>rw[z]<;>decide) #[Ü qPh,H,I1,û,#[rfl,_,m,rfl],ę p n,ur j q]]
  show jZ f
  ·subst z;show wpAny_pyNext_ascii_item st m fin
  ·subst z;show wpAny_pyNext_wide_item st m fin
 done:=by
  intro X M hw N L i a s J H E I q st p;show(qL6,HR q);let m:jdi=nO:=by let:zTf:=p;simp;show this
  show jZ f
  ·subst z;show wpAny_pyNext_ascii_end oa st m (Ľ l Q #[rfl,I.turned (t':=s.toks) (za9 j Q) F f1 D C B])
  ·subst z;show wpAny_pyNext_wide_end oa st m (Ľ l Q #[rfl,I.turned (t':=s.toks) (za9 j Q) F f1 D C B])
 self:=λ_ _ _ _ _ st h=>by
  show jZ f
  ·subst z;show wpAny_pyIter_striter_ascii st.2 h
  ·subst z;show wpAny_pyIter_striter_wide st.2 h
def QnN:cA (λx H C=>∃y,x=Ü y/\C (Its y) H):=by
 intro c a g H1 x v C I1 h i;show zm9 y i h
 let fin:∀ty,(qGi\/qW7)->PIE X c g tg C (xpa a) { a with heap:=a.heap.push { cls:=.type ty,data:=.fields #[.str y t,Ry,] } }:=λty d=>by
  refine#[a.heap.objs.size,kC a,_,_,H1,rfl,zZ a,Qgz _ y ty t d,#[NQ _,_,Ű,rfl,rfl],Ó b j,q];show zq2 a j
 cases f:y.cps.all (·<128)
 ·show wpAny_pyIter_wide f (fin _ cO)
 ·show wpAny_pyIter_ascii f (fin _ jV)
#print"-"
set_option backward.eqns.nonrecursive false in
abbrev VW(h:MH):W->Option (Ã×ji)
 |ŋ=>jb7
 |Ņ=>jb7
 |B6=>jb7
 |Ü x=>sO (U4 x,nO)
 |Ä n=>match h[n]? with|qu=>sO (ws,sO zY3)|_=>nO
 |_=>nO
abbrev Qm(m:ME):MI:=λa h=>(m a h).bind λp=>(VW p.2 p.1).map λq=>(q.1,q.2,p.2)
section
variable{K:Nk}{R:Rn}
def Gg(d:eA)(r:ϕ):ItOk K R xwg ws nO where
 go:=λi w j h H x c _ e=>by
  show(jia g r,#[xs,v,qch,g])
 yld:=λi w j h H x s e c _ q l=>by
  show jHb;let:=m xs (Zs (zxb c e) d);show jvj
 stop:=λi j h H x c _ n=>#[xs,qch,yB r n]
def Qg8(d:zS4)(r:ϕ):ItOk K R xwh ws nO where
 go:=λi w j h H x c _ e=>by
  show(jia g r,#[xs,v,qci,g])
 yld:=λi w j h H x s e c _ q l=>by
  show jHb;let:=m xs (ZF (zxb c e) d);show jvj
 stop:=λi j h H x c _ n=>#[xs,qci,yB r n]
def Qhk(g:n<R.N):ItOk K R (Itl K ŕ) ws (sO zY3) where
 go:=λi w o h H x b d e=>by
  show(zs5,jia m f);rw[x.ρ n g]at a;show#[c,v,To a,m]
 yld:=λi w o h H x t e b d s p=>by
  show(BH q p,zs5,ϧ v m r f s);rw[e.ρ n g]at a;let:=q c (SqL.of a);show(Cv m,#[o,CV,b,r])
 stop:=λi o h H x b d j=>by
  show zs5;rw[x.ρ n g]at a;show#[c,To a,yB f j]
def Qhq:lK (Its x) (U4 x) where
 go:=λi w b h H _ _ _ e=>by
  let:=à e;apply zVb;simpa[U4]using this
 yld:=λi w b h H v l e d _ a f=>by
  let#[rfl,c,j,rfl]:=f;unfold U4 at a;rw[Np,Ee,j]at a;show ï a #[b,CV,d,Rw.str _]
 stop:=λi b h H _ _ _ g=>by
  apply zTf;simpa[U4]using g
def WL{lo:Int}:lK xp9 ((List.range n).map qod) where
 go:=λi w b h H _ _ _ e=>by
  let:=à e;apply i<n;show Av
 yld:=λi w b h H v m e d _ c f=>by
  show yW f;rw[Np]at c;show(Bw j a l c,jZ8,ï l #[b,CV,d,jgb])
 stop:=λi b h H _ _ _ g=>by
  apply n<=i;show jx g
#print"-"
section
variable{X:Cx}{tg a b c:Expr}{ma:ME}{ms:MA}{pos p:Pos}
def QmA(P:uC):pD a (Qm ma):=by
 intro i s B H C I q;let#[R,r,h,items,D,h',F,st,e,k]:=q;show į w S e1 Z e;let#[#[M,sr],g,Y]:=ό Z;cases Y;refine thn (P i s B H _ I #[R,r,h,w,S,F,st,e1,CD v l d]) λv E #[x,H1,I1,J,L]=>((it_list.or Qqc).or QnN) i E B H1 x v C I1 J L;cases w with
 |tup u=>
  cases g;let#[ad,t,rfl,A,Q]:=d.tupAt rv;show zie;let#[o,f,U,j,m]:=rv;cases U;show đ (ü #[_,rfl,ę t A,uU l d (Qg8 j m)])
 |lst u=>
  show(qpj,đ (ϵ #[_,rfl,#[f,SqL.of (d.sub _ _ j)],uU l d (Gg (SqL.of j) m)]))
 |frz u=>
  show(qpj,đ (ϵ #[_,rfl,#[f,Zs d.sub j],uU l d (Gg j m)]))
 |str y=>
  cases g;rw[rv.str_eq];show ÿ #[y,rfl,k R1 H1 _ l d Qhq]
 |ref n=>
  simp only[VW]at g;split at g
  ·show B3 u N g;let#[z,rfl,t,A,Q]:=d.refAt rv N;show đ (ϵ #[_,rfl,#[t,To A],uU l d (Qhk z)])
  ·cases g
 |_=>cases g
abbrev QA(lo:Int)(n:Nat):Ã:=(List.range n).map qod
abbrev YT(ms:MA):MI:=λd h=>(ms d h).bind λp=>match p.1 with
 |[Â j]=>if qp6 then sO (QA 0 j.toNat,nO,p.2)else nO
 |_=>nO
abbrev Qf8(ms:MA):MI:=λd h=>(ms d h).bind λp=>match p.1 with
 |qk=>if xcf/\jpb then sO (QA i zXf,nO,p.2)else nO
 |_=>nO
def QoY(y:cq)(x:xW)(z:za1)(w:yt:=by rfl):pD jOb (YT ms):=
 WE (QfX y x z w) λD H C n=>by
  let#[R,f,h,items,s,F,t,st,e,k]:=n;show TJ q A B d e #[R,f,h,q,A,t,st,B,CD E o g];split at d
  ·rename_i j l;show vL l;split at d
   ·show(Α m d,zFb r u i,A0 i);rw[u.int_eq];show#[j,rfl,m.1,m.2,k R1 H1 _ o g WL]
   ·cases d
  ·cases d
def Qnr(D:cq)(B:xW)(F:PMA X [a,b] ms)(A:jVe:=by rfl)(l:jDd:=by rfl):pD jOc (Qf8 ms):=
 WE (Qei D B F A l) λL H C q=>by
  let#[R,f,h,items,w,P,x,st,e,k]:=q;show TJ s I J d e #[R,f,h,s,I,x,st,J,CD M r g];split at d
  ·rename_i i j o;show vL o;split at d
   ·show(Α E d,zFb u z n,Ao n N t y m,A0 m);rw[z.int_eq,y.int_eq];show#[i,j,rfl,E,k R1 H1 _ r g WL]
   ·cases d
  ·cases d
#print"-"
abbrev Qcj(cp:ϓ)(σ:MSt):MSt:=jta
def Rst.cap{K:Nk}(s:Rst K R b σ)(cp:ϓ):Rst K R (Qcj cp b) xr3:=by
 unfold Qcj Gd;refine#[Ç,Ú i w e];rw[Np]at e ⊢;show Bw o f a e;rw[f];cases o with
 |none=>cases a
 |some j=>
  show q8 a;split at a
  ·rename_i u hu;subst a;let#[v,d,c]:=s.2 j w hu;show#[v,AJ d,c]
  ·cases a
open Classical in
set_option backward.eqns.deepRecursiveSplit false in
abbrev ZN(fin:Ŭ)(items:Ã)(src:ji)(b:MG)(mt:MT)(me:ME):Ã->Ã->MSt->qF
 |[],a,_,h=>if Bz then fin a h else nO
 | w::r,a,d,h=>if Bz then(b w d h).bind λc=>(mt c h).bind λq=>match q.1 with
   |true=>(me c q.2).bind λv=>if yR then zVc r (a++[v.1]) c v else nO
   |false=>zVc r a c q
  else nO
abbrev QC(fin:Ŭ)(mi:MI)(cp:ϓ)(b:MG)(mt:MT)(me:ME):ME:=λa h=>(mi a h).bind λp=>ZN fin p.1 p.2.1 b mt me p.1 [] (Qcj cp a) p.2.2
abbrev Vz:MT:=λ_ h=>tw
abbrev Zf(a:Ã)(h:MH):Þ:=sO (À a,h)
abbrev Qo2(a:Ã)(h:MH):Þ:=sO (ģ,h++[À a])
abbrev Wc(K:Nk)(fin:Ŭ):Prop:=∀R h H b a w d D,Đ->C3 b a->fin b h=Ď w d->H D=nO->∃c,AO c/\Rh K c d joj/\ŵ c w qz
def QjR{K:Nk}:Wc K Zf:=λR h H c a w d D b r e hD=>by
 cases e;show b.lstI hD r
def QmD{K:Nk}:Wc K Qo2:=λR h H d a w f D c r e hD=>by
 cases e;show c.new hD (Ľ g b #[a,rfl,So b r])
section
variable{X:Cx}{elt tg iter c:Expr}{scope:Scope}{pos:Pos}{cl:Cz}{Nb:Á}{cp:ϓ}{mi:MI}{b:MG}{mt:MT}{me:ME}{fin:Ŭ}
def UD{K:Nk}(hf:Wc K fin)(q:iA zHf):Qiy xr0 cp xy3 (tIT K mt) (tI K me) σ H Q:=by
 let#[R,B,h,w,h',rh,s,e,k]:=q;show jF8 E;refine#[R,B,h,items,E,h1,rh,s,e1,λR1 H1 J x1 aa it=>?_];refine#[λi n z τ H=>qZ2/\∃R2 g o a,zfe/\Rh K R2 o H/\Rst K R2 g τ/\Rws K R2 a z/\ZN fin items E b mt me qZ3 a g o=Ď w h'/\cj R2 h',#[items.length,Ç,R1,Qcj cp B,h1,[],CV,aa,(s.mono x1).cap cp,Rws.nil,ø e2,k.ext x1],?_]
 rintro i n z τ H2 ⟨af,R2,g,o,a,C,m,s2,N,f,k2⟩
 by_cases I:xg3
 ·obtain⟨y,P⟩:∃y,cv=sO y:=#[jgd,Nl I]
  let hd:zai=y::qZ4:=by
   rw[Ek I];rw[Nl I]at P;cases P;rfl
  show qGj
  ·rename_i S;show(ē d e4 e5 f,į t h3 e6 e7 e5);show AT #[it.go i y R2 o H2 C m S P,λx H' ab=>?_];let#[R3,l,r,p]:=it.yld i y R2 o H2 x H' C m S P ab;refine#[R3,g,o,y,d,r,s2.mono l,p,e4,λR4 H4 ae A Z M=>?_];refine#[R4,d,o,t,h3,Z,M,e6,ś R5 H5 j F];cases t with
   |true=>
    show(į v h4 e8 U e7,yT U)
    ·rename_i hz;refine Qng #[R5,d,h3,v,h4,F,M.mono j,e8,λR6 H6 u L Y rv=>#[by show(uW N,hz),n-1,Ð,Ð,R6,d,h4,a++[v],C.trans zr2,Y,M.mono (Ę j L),?_,U,k2.ext zr2]];show Rws.append (Rws.mono zr2 _ _ N) (Rws.cons rv Rws.nil)
    ·cases U
   |false=>
    show Qnf #[n-1,Ð,Ð,R5,d,h3,a,C.trans zt5,F,M.mono j,So zt5 N,e7,k2.ext zt5]
  ·cases f
 ·let hd:zai=[]:=DF (AM I);show qGj
  ·rename_i S;show Bo #[it.stop i R2 o H2 C m S (AM I),λD hD=>?_];let#[R3,l,r,p]:=hf R2 o H2 a z w h' D m N f hD;show k2 R3 _ _ l r p
  ·cases f
def Qhw(p:cV)(u:ı)(B:Cq)(hi:ka)(o:∀a d C i f,lC (Pf i f))
  (r:∀a d C i f,oK i f) (n:Br:=by intro _;rfl) :
  þ zue qF9:=
 Q3 (QeB (g:=zff) (te:=zfg) (tt:=tIT X.K Vz) u B hi o (λa d C i f j s v H Q I q=>wpAny_tests_nil (by
  let#[R,l,h,t,z,m,st,e,k]:=q;show ï e #[H,I,k R H Χ m])) r n) λ_ _ _ q=>UD p q
def Qhy(n:cV)(p:ı)(B:Cq)(hi:ka)(m:∀a d C f e,lC jq4)
  (j:∀a d C f e,PMT jq4 c mt)
  (o:∀a d C f e,oK f e) (l:Br:=by intro _;rfl) :
  þ zuf zHf:=
 Q3 (QeB (g:=zff) (te:=zfg) (tt:=tIT X.K mt) p B hi m (λa d C f e h s i H Q I q=>wpAny_tests_one (j a d C f e h s i H Q I q)) o l) λ_ _ _ q=>UD n q
#print"-"
open PySem.SeqAt
mutual
abbrev eqW:W->Th
 |.non,.non=>true
 |.bl a,.bl b=>a==b
 |.bl a,Â b=>qn8
 |Â a,.bl b=>qn9
 |Â a,Â b=>a==b
 |Ü a,Ü b=>a==b
 |Î a,Î b=>zki
 |À a,À b=>zki
 |_,_=>false
abbrev Kf:Ã->zw3
 |[],[]=>true
 |x::xs,y::a=>zk3&&Kf xs a
 |_,_=>false
end
set_option backward.eqns.deepRecursiveSplit false in
abbrev ZM(f:b->Δ a):ä b->zd0 a
 |[]=>sO []
 |x::xs=>(f x).bind λy=>(ZM f xs).map (y::·)
set_option backward.eqns.deepRecursiveSplit false in
abbrev drf(h:MH):Nat->W->Û
 |0,_=>nO
 |n+1,w=>match w with
  |ŋ=>(ZM mr ws).map .tup
  |Ņ=>zE5
  |B6=>zE5
  |Ä k=>match h[k]? with|qu=>zE5|_=>nO
  |.ty _=>nO
  |.non=>iy
  |.bl b=>sO jp
  |Â i=>Ĝ i
  |Ü x=>Ϸ x
def QO:∀{xs:ä r} {a:ä p},ZM f xs=sO a->xs.length=a.length/\∀(i:Nat) x,xw1->∃y,a[i]?=sO y/\f x=sO y:=by
 intro xs
 induction xs with
 |nil=>
  intro a e;show ï e #[rfl,λi x h=>AF h]
 |cons x xs c=>
  intro a e;show(ē y o n e,yl s m j n,uY l q c m);refine#[AJ l,Ú i z b];cases i with
  |zero=>show yj b #[y,Ç,o]
  |succ i=>simp at b;let#[u,g,d]:=q i z b;show#[u,AJ g,d]
def Kk:∀{a b:Ã},a.length≠b.length->zki=false
 |[],[],h=>T4 h
 |[],_::_,_=>tJ
 |_::_,[],_=>tJ
 |x::xs,y::c,h=>by
  unfold Kf;rw[Kk (a:=xs) (b:=c) (λz=>h wM),Fy]
def Ku:∀{a b:Ã},a.length=b.length->zki=(List.range a.length).all λj=>match a[j]?,b[j]? with|è x,sO y=>zk3|_,_=>false
 |[],[],_=>tJ
 |x::xs,y::c,h=>by
  let d:=Ku (a:=xs) (b:=c) g7;unfold Kf;rw[d,NP,List.range_succ_eq_map,Os,List.all_map];simp[Da]
inductive Kd(K:Nk)(R:Rn)(h:MH)(H:Hp)(n:Nat)(v:V):W->Prop where
 |flat {a:W} (f:Ql1 v=true) (e:jsj):zb6 a
 |lst {ad:Addr} {xs:Ø} {ws as:Ã} (e:v=zj7) (q:SqL K H ad xs) (r:ϕ) (m:zw4):zb6 xy1
 |tup {ad:Addr} {xs:Ø} {ws as:Ã} (e:v=zj7) (q:SqT K H ad xs) (r:ϕ) (m:zw4):zb6 (.tup as)
def XG{K:Nk}{v:V}(g:Đ)(r:ù w)(e:drf h (n+1) w=sO a):zb6 a:=by
 cases w with
 |non=>rw[r.non_eq];show eK (ŧ ζ)
 |bl b=>rw[r.bl_eq];show eK (ü (ŧ (zhe b)))
 |int i=>rw[r.int_eq];show eK (ü (Tu (ŧ (zhe i))))
 |str x=>rw[r.str_eq];show eK (ü (Tu (.inr (zhe x))))
 |tup l=>
  let#[ad,j,f,q,c]:=qc g r;show(nM,.tup f q c m)
 |lst l=>
  let#[ad,j,f,q,c]:=lM g;show(nM,qwj)
 |frz l=>
  let#[ad,j,f,q,c]:=g.frzAt r;show(nM,.lst f q c m)
 |ref k=>
  simp only[drf]at e;split at e
  ·rename_i l hk;show nM;let#[_,f,j,q,c]:=g.refAt r hk;show qwj
  ·cases e
 |ty _=>cases e
section
variable{X:Cx}{pins:Ý}{σ:L2.St}{H:Hp}{s:Shared}{R:Rn}{h:MH}
def U1{K:Nk}(D:∀q p v a b,ù q->ù p->χ q=sO a->χ p=sO b->a=b) :
  ∀{d c:Ã} {xs:Ø} {a b:Ã},SD d->SD c->yP d=sO a->yP c=sO b->a=b:=by
 intro d
 induction d with
 |nil=>
  intro c xs a b f e i g;show A0 f;cases c with
  |nil=>show Bi i g;rfl
  |cons w N=>show vD e;let#[_,_,z,_]:=e;cases z
 | cons w d E=>
  intro c xs a b f e i g;show Ao f v u C B;cases c with
  |nil=>show i8 e;cases e
  |cons x c=>
   show vD e;let#[_,_,z,A,q2]:=e;cases z;show(ē y L J i,Bw M I F J,ē t o m g,Bw r l j m);subst F j;rw[D w x v y t C A L o,E B q2 I l]
def K0(I:á)(q:rS)(e:SQ a l):False:=by
 show gm g p q;let#[d,_,f,_]:=jP e;let#[o,n,j,i,_]:=p;let#[m,c,b,_]:=f;show ð j c;rw[i]at b;show č b Å
def QhE{v:V}{a b:W}(z:jsj)(d:(iT/\b=.non)\/(zLa c b)\/(zqd b)\/∃x,Pp/\b=Ü x):a=b:=by
 let k:∀{c:W},((iT/\c=.non)\/(zLa b c)\/(zqd c)\/∃x,Pp/\c=Ü x)->c=match v with|.bl b=>.bl b|Â i=>Â i|Ü x=>Ü x|_=>.non:=by
  rintro c (⟨rfl,rfl⟩|⟨_,rfl,rfl⟩|⟨_,rfl,rfl⟩|⟨_,rfl,rfl⟩)<;>rfl
 show(k z).trans (k d).symm
def Uk(I:á)(g:Ϧ)(n:Nat):∀(j i:W) (v:V) (a b:W),ń j v->ń i v->χ j=sO a->χ i=sO b->a=b:=by
 induction n with
 |zero=>intro _ _ _ _ _ _ _ e _;cases e
 | succ n u=>
  intro j i v a b x l y t;cases XG g x y with
  | flat f z=>
   cases jgg with
   |flat A w=>
    show QhE z w
   |lst e=>show Bc e f
   |tup e=>show Bc e f
  |lst e q r m=>
   subst e;cases jgg with
   |flat f=>cases f
   |lst d c o p=>cases d;let:=I.list_inj q c;show xg6
   |tup d c=>cases d;show(K0 I q c).elim
  |tup e q r m=>
   subst e;cases jgg with
   |flat f=>cases f
   |lst d c=>cases d;show(K0 I c q).elim
   |tup d c o p=>cases d;let:=I.tuple_inj q c;show xg6
def QeJ(d:jA8):∀(ws as:Ã),zw4->Kf as as=true:=λws=>by
 induction ws with
 |nil=>intro as m;cases m;show rfl
 |cons w ws c=>
  intro as m;show(ē y i g m,yl b f e g);apply(eqW y y&&Kf b b)=true;rw[d w y i,c b f];rfl
def Qbx(n:Nat):jA8:=by
 induction n with
 |zero=>intro _ _ e;cases e
 | succ n f=>
  intro w a e
  let d:∀{c:Ã} {g:Ã->W},(∀as,eqW (g as) (g as)=Kf as as)->(ZM mr c).map g=sO a->qIi:=λj e=>by
   let#[as,m,l]:=ό e;rw[<-l,j];show QeJ f _ as m
  cases w with
  |non=>cases e;show rfl
  |bl b=>cases e;show xZ b
  |int i=>cases e;show xZ i
  |str x=>cases e;show xZ x
  |tup c=>show r4
  |lst c=>show r4
  |frz c=>show r4
  | ref k=>
   simp only[drf]at e;cases hk:h[k]? with
   |none=>rw[hk]at e;cases e
   |some o=>
    rw[hk]at e;cases o with
    |lst c=>show r4
    |_=>cases e
  |ty _=>cases e
def Xr(J:∀g f v1 i p o a b,ń g v1->ń f i->Ť v1 p->Ť i o->χ g=sO a->χ f=sO b->EqAt A s p o kv)
  (r:cK e) (q:uK d v) (v1:uo) (i:Vals v c) (m1:zti) (m2:ztj)
  (j:Nat) (h1:j<its.toArray.size) (h2:qZ5):EqAt A s xg7 xr6 (match as[j]?,bs[j]? with|è x,sO y=>zk3|_,_=>false):=by
 show(Pq I r F v1,Pq E q D i);rw[ND]at h1 h2;obtain⟨g,m⟩:∃w,e[j]?=sO w:=zr0 e j h1 F I
 obtain⟨f,l⟩:∃w,d[j]?=sO w:=zr0 d j h2 D E
 show(ϧ x M B r m,ϧ y L z q l);let#[u,hu,C]:=v1.get M;let#[t,N,rt]:=i.get L;let#[a,Q,U]:=(QO m1).2 j g m;let#[b,P,S]:=(QO m2).2 j f l;rw[Q,P]
 let Z:xg7=u:=by
  let:=hu;show zx1 h1
 let Y:xr6=t:=by
  let:=N;show zx1 h2
 rw[Z,Y];show J g f x y u t a b B z C rt U S
def QbO(I:á)(hu:uf)(y:∀i g v1 c m l a b,ń i v1->jmg)
  {ad v:Addr} (x:xd1) (q2:iU v w) (p:cK e) (o:uK d w) (m1:zti) (m2:ztj):qv0 (ý v):=by
 show jm7
 ·rw[Ku u];let:=RcAt.lists (A:=A) r.isList q.isList qN7 hu (λj B z=>Xr y p o v1 c m1 m2 j B z);show qkh
 ·rw[Kk u];show RcAt.lists_lengths r.isList q.isList qD6 hu
def QeS(I:á)(hu:uf)(y:∀m l v1 e p o a b,ń m v1->jmh)
  {ad i:Addr} (v:xd2) (q2:SQ i u) (r:cK g) (q:uK f u) (m1:yP g=sO as) (m2:yP f=sO bs):qv0 (ý i):=by
 show(joi,jmd);let:=RcAt.tuples (A:=A) (nt d x) jK6 hu (λj B z=>Xr y r q v1 e m1 m2 j B z);show jSa
 show jYi
def QdO(I:á)(C:Ϧ):∀(n:Nat) (A:Around),vw->∀(E l:W) (v1 M:V) (P N:Value) (a b:W),ń E v1->ń l M->Ť v1 P->Ť M N->χ E=sO a->χ l=sO b->EqAt A s P N kv:=by
 intro n
 induction n with
 |zero=>intro _ _ _ _ _ _ _ _ _ _ _ _ _ _ e _;cases e
 | succ n aa=>
  intro A hu E l v1 M P N a b Q F i g e1 w;let c:uf:=zFc
  let ih:=aa A.in1 f0
  let v:∀{ad:Addr} {L:Ø},xd3 L->∃d:Ń,qH0 d:=λq=>by
   show zqe d
  let u:∀{ad:Addr} {L:Ø},xd4 L->∃d:Ń,qD7 d:=λq=>by
   show zqf d
  cases XG C Q e1 with
  | flat f z=>
   cases jgh with
   |flat f' D=>
    let:=QoR (A:=A) (s:=s) i g f f'
    rcases z with⟨rfl,rfl⟩|⟨_,rfl,rfl⟩|⟨_,rfl,rfl⟩|⟨_,rfl,rfl⟩<;>rcases D with⟨rfl,rfl⟩|⟨_,rfl,rfl⟩|⟨_,rfl,rfl⟩|⟨_,rfl,rfl⟩<;>show this
   |lst e q=>
    show HY g d v
    ·cases i;show EqAt.none_list p c
    ·cases i;show EqAt.bool_list _ p c
    ·show(Ċ i,EqAt.int_list _ t p c)
    ·show(Ċ i,EqAt.str_list _ t p c)
   |tup e q=>
    show HY g d u
    ·cases i;show EqAt.none_tuple p c
    ·cases i;show EqAt.bool_tuple _ p c
    ·show(Ċ i,EqAt.int_tuple _ t p c)
    ·show(Ċ i,EqAt.str_tuple _ t p c)
  | @lst B _ _ _ e q r m=>
   show qM e i d p v q;let Z:=jgh;cases Z with
   |flat f' D=>
    show qL D
    ·cases g;show EqAt.list_none p c
    ·cases g;show EqAt.list_bool _ p c
    ·show(Ċ g,EqAt.list_int _ t p c)
    ·show(Ċ g,EqAt.list_str _ t p c)
   |@lst y _ _ _ x o S Y=>
    show jDi
    ·subst j;let:=Uk I C (n+1) E l _ _ _ Q F e1 w;show qu4
    ·show EqAt.of_refs j (QbO I c ih q o r S m Y)
   |tup x o=>
    show(qM x g J U u o,EqAt.list_tuple p U c)
  | @tup B _ _ _ e q r m=>
   show qM e i d p u q;let Z:=jgh;cases Z with
   |flat f' D=>
    show qL D
    ·cases g;show EqAt.tuple_none p c
    ·cases g;show EqAt.tuple_bool _ p c
    ·show(Ċ g,EqAt.tuple_int _ t p c)
    ·show(Ċ g,EqAt.tuple_str _ t p c)
   |lst x o=>
    show(qM x g J U v o,EqAt.tuple_list p U c)
   |@tup y _ _ _ x o S Y=>
    show jDi
    ·subst j;let:=Uk I C (n+1) E l _ _ _ Q F e1 w;show qu4
    ·show EqAt.of_refs j (QeS I c ih q o r S m Y)
#print"-"
#print"-Mi"
namespace Mi
open L2 PySem.SeqAt
section
variable{X:Cx}{pins:Ý}{σ:L2.St}{H:Hp}{s:Shared}{R:Rn}{h:MH}
def QbU(I:á)(hu:uf)(y:∀i g v1 c m l a b,ń i v1->jmg)
  {ad v:Addr} (x:xd1) (q2:iU v w) (p:cK e) (o:uK d w) (m1:zti) (m2:ztj):qr5 (ý v):=by
 show jm7
 ·rw[Ku u];let:=RcNeAt.lists (A:=A) r.isList q.isList qN7 hu (λj B z=>Xr y p o v1 c m1 m2 j B z);show qkh
 ·rw[Kk u];show RcNeAt.lists_lengths r.isList q.isList qD6 hu
def Qe1(I:á)(hu:uf)(y:∀m l v1 e p o a b,ń m v1->jmh)
  {ad i:Addr} (v:xd2) (q2:SQ i u) (r:cK g) (q:uK f u) (m1:yP g=sO as) (m2:yP f=sO bs):qr5 (ý i):=by
 show(joi,jmd);let:=RcNeAt.tuples (A:=A) (nt d x) jK6 hu (λj B z=>Xr y r q v1 e m1 m2 j B z);show jSa
 show jYi
def QnT(I:á)(x:Ϧ)(n:Nat)(A:Around)(hu:vw)(P N:W)(v1 Q:V)(U S:Value)(a b:W)(r1:ń P v1)(C:ń N Q)(j:Ť v1 U)(c:Ť Q S)(e1:χ P=sO a)(L:χ N=sO b):RcAt A s U S kv:=by
 cases n with
 |zero=>cases e1
 | succ n=>
  let d:uf:=zFc
  let Y:=QdO I x n A.in1 f0
  let u:jvg:=λq=>by
   show zqe i
  let o:jvh:=λq=>by
   show zqf i
  cases XG x r1 e1 with
  | flat f z=>
   cases zO2 with
   | flat Z w=>
    show jSd
    ·show ě
     show RcAt.none_none
    ·show ě
     show RcAt.none_bool _
    ·show ě
     show RcAt.none_int _ _
    ·show ě
     show RcAt.none_str _ _
    ·show ě
     show RcAt.bool_none _
    ·show ě
     show RcAt.bool_bool _ _
    ·show ě
     show RcAt.bool_int _ _ _
    ·show ě
     show RcAt.bool_str _ _ _
    ·show ě
     show RcAt.int_none _ _
    ·show ě
     show RcAt.int_bool _ _ _
    ·show ě
     show RcAt.int_int _ _ _ _
    ·show ě
     show RcAt.int_str _ _ _ _
    ·show ě
     show RcAt.str_none _ _
    ·show ě
     show RcAt.str_bool _ _ _
    ·show ě
     show RcAt.str_int _ _ _ _
    ·show ě
     show RcAt.str_str _ _ _ _
   |lst e q=>
    show HY c i u
    ·cases j;show RcAt.none_list p d
    ·cases j;show RcAt.bool_list _ p d
    ·show(Ċ j,RcAt.int_list _ t p d)
    ·show(Ċ j,RcAt.str_list _ t p d)
   |tup e q=>
    show HY c i o
    ·cases j;show RcAt.none_tuple p d
    ·cases j;show RcAt.bool_tuple _ p d
    ·show(Ċ j,RcAt.int_tuple _ t p d)
    ·show(Ċ j,RcAt.str_tuple _ t p d)
  | @lst M _ _ _ e q r m=>
   show oE u;cases J with
   |flat Z w=>
    show qL w
    ·cases c;show RcAt.list_none p d
    ·cases c;show RcAt.list_bool _ p d
    ·show(Ζ,RcAt.list_int _ t p d)
    ·show(Ζ,RcAt.list_str _ t p d)
   |tup v l=>
    show(o6 o,RcAt.list_tuple p E d)
   |lst v l D F=>
    show(w5,QbO I d Y q l r D m F)
  | @tup M _ _ _ e q r m=>
   show oE o;cases J with
   |flat Z w=>
    show qL w
    ·cases c;show RcAt.tuple_none p d
    ·cases c;show RcAt.tuple_bool _ p d
    ·show(Ζ,RcAt.tuple_int _ t p d)
    ·show(Ζ,RcAt.tuple_str _ t p d)
   |lst v l=>
    show(o6 u,RcAt.tuple_list p E d)
   |tup v l D F=>
    show(w5,QeS I d Y q l r D m F)
def QgI(I:á)(x:Ϧ)(n:Nat)(A:Around)(hu:vw)(P N:W)(v1 Q:V)(U S:Value)(a b:W)(r1:ń P v1)(C:ń N Q)(j:Ť v1 U)(c:Ť Q S)(e1:χ P=sO a)(L:χ N=sO b):RcNeAt A s U S xr8:=by
 cases n with
 |zero=>cases e1
 | succ n=>
  let d:uf:=zFc
  let Y:=QdO I x n A.in1 jz1
  let u:jvg:=λq=>by
   show zqe i
  let o:jvh:=λq=>by
   show zqf i
  cases XG x r1 e1 with
  | flat f z=>
   cases zO2 with
   | flat Z w=>
    show jSd
    ·show ě
     show RcNeAt.none_none
    ·show ě
     show RcNeAt.none_bool _
    ·show ě
     show RcNeAt.none_int _ _
    ·show ě
     show RcNeAt.none_str _ _
    ·show ě
     show RcNeAt.bool_none _
    ·show ě
     show RcNeAt.bool_bool _ _
    ·show ě
     show RcNeAt.bool_int _ _ _
    ·show ě
     show RcNeAt.bool_str _ _ _
    ·show ě
     show RcNeAt.int_none _ _
    ·show ě
     show RcNeAt.int_bool _ _ _
    ·show ě
     show RcNeAt.int_int _ _ _ _
    ·show ě
     show RcNeAt.int_str _ _ _ _
    ·show ě
     show RcNeAt.str_none _ _
    ·show ě
     show RcNeAt.str_bool _ _ _
    ·show ě
     show RcNeAt.str_int _ _ _ _
    ·show ě
     show RcNeAt.str_str _ _ _ _
   |lst e q=>
    show HY c i u
    ·cases j;show RcNeAt.none_list p d
    ·cases j;show RcNeAt.bool_list _ p d
    ·show(Ċ j,RcNeAt.int_list _ t p d)
    ·show(Ċ j,RcNeAt.str_list _ t p d)
   |tup e q=>
    show HY c i o
    ·cases j;show RcNeAt.none_tuple p d
    ·cases j;show RcNeAt.bool_tuple _ p d
    ·show(Ċ j,RcNeAt.int_tuple _ t p d)
    ·show(Ċ j,RcNeAt.str_tuple _ t p d)
  | @lst M _ _ _ e q r m=>
   show oE u;cases J with
   |flat Z w=>
    show qL w
    ·cases c;show RcNeAt.list_none p d
    ·cases c;show RcNeAt.list_bool _ p d
    ·show(Ζ,RcNeAt.list_int _ t p d)
    ·show(Ζ,RcNeAt.list_str _ t p d)
   |tup v l=>
    show(o6 o,RcNeAt.list_tuple p E d)
   |lst v l D F=>
    show(w5,QbU I d Y q l r D m F)
  | @tup M _ _ _ e q r m=>
   show oE o;cases J with
   |flat Z w=>
    show qL w
    ·cases c;show RcNeAt.tuple_none p d
    ·cases c;show RcNeAt.tuple_bool _ p d
    ·show(Ζ,RcNeAt.tuple_int _ t p d)
    ·show(Ζ,RcNeAt.tuple_str _ t p d)
   |lst v l=>
    show(o6 u,RcNeAt.tuple_list p E d)
   |tup v l D F=>
    show(w5,Qe1 I d Y q l r D m F)
#print"-"
abbrev wEq(a b:W)(h:MH):Þ:=qL7 (ñ (eqW x y),h)
abbrev wNe(a b:W)(h:MH):Þ:=qL7 (ñ (! zk3),h)
def Qba{K:Nk}:OpM K (F2 K f) f:=λ_ _ _ _ q=>q
section
variable{X:Cx}
def QoC(hu:Ł):ë (compareOp .Eq) (F2 X.K wEq):=by
 intro d s t H x y v u Q I g f q;let#[R,h,a,b,w,z,c,j,i,e,k]:=q;show(jo5,QnT I c 40 X.A TV a b x y v u r p j i g f o m _ _ _ _ jq6)
def Qoy(hu:Ł):ë (compareOp .NotEq) (F2 X.K wNe):=by
 intro d s t H x y v u Q I g f q;let#[R,h,a,b,w,z,c,j,i,e,k]:=q;show(jo5,QgI I c 40 X.A TV a b x y v u r p j i g f o m _ _ _ _ jq6)
abbrev inW(x:W)(xs:Ã):Bool:=xs.any xr9
abbrev wIn(neg:Bool)(a b:W)(h:MH):Þ:=match b with
 |Î d=>jTg
 |b=>(lsW h b).bind λd=>jTg
open Classical in
abbrev QfV(K:Nk)(R:Rn)(h:MH)(x:W)(u:Value):Bool:=decide (∃w v a,ù w/\ó v/\lD w=sO a/\zj6=true)
open Classical in
def Qau(I:Ĩ c)(i:Ϧ)(r:ń w v)(t:ó v)(e:lD w=sO a):QfV X.K R h x u=zj6:=by
 by_cases q:zj6=true
 ·rw[q];show decide_eq_true #[w,v,a,r,t,e,q]
 ·let b:zj6=false:=ø q
  rw[b];refine decide_eq_false (ļ d);let#[f,n,m,j,g,l,z]:=d;let:=t.inj g;subst this;rw[Uk I i 40 w f v a m r j e l,z]at b;cases b
def Qd6(I:Ĩ a)(f:Ϧ):∀{ws as:Ã} {xs:Ø} {us:Ï},zQe->Ϝ->qw8->us.any (QfV X.K R h x)=inW x as:=by
 intro ws
 induction ws with
 |nil=>
  intro _ _ _ r t m;show(A0 r,Bi t m);rfl
 | cons w ws j=>
  intro _ _ _ r t m;show Ao r v c i g;cases t with
  |cons e d=>
   show(ē y p o m,yl q n l o);let b:=j g d n;show sM b;rw[De,De,Qau I f i e p,b]
def Kz(I:Ĩ g)(f:Ϧ)(hu:A.units+40<cLine)(p:ń a v)(o:ó v)(D:lD a=sO x) 
  (r:zQe) (t:Ϝ) (m:qw8):∀y∈us,EqAt A s y u (QfV X.K R h x y):=by
 intro y B;let#[i,j,e]:=Dz.mp B;show Pq z r q t;obtain⟨w,hw⟩:∃w,xxf:=#[ws[i]'(Ng (Ng j (ī q)) (ī z)),Nl _]
 let#[n,C,rv]:=r.get hw;show ϧ E c d t C;rw[Nl j,e]at c;cases c;let#[b,F,l]:=(QO m).2 i w hw;rw[Qau I f rv d l];show QdO I f 40 A hu w a n v y u b x rv p d o l D
def Qnt(hu:Ł):ë tT (q9 S7):=by
 intro p s Y H x y v u Q I P N q;let#[R,h,a,b,w,M,l,U,S,e,k]:=q;let B:zIe:=jBd
 let main:∀g,((drf h 40 a).bind λx=>(ZM fv g).map λc=>((W.bl (if false then ! iY else iY),h):W×MH))=Ď w M->∃d c,rB/\eH g=sO c/\w=ñ xy5/\M=h:=λg e=>by
  show jnf
 let fin:∀{d:W} {c E:Ã} {m:Ø} {f:Ï},uK E m->Vals m f->rB->eH E=sO c->w=ñ xy5->M=h->pr p Y (Tq (f.toArray.any xU)):=λ{d c E m f} r t ea em C D=>by
  show jUd
 show xkf
 ·show jm8;show in_tupleAt xU (nt f J) (λz L=>Kz I l B U P j o n i z MR) bU
 ·show jm4;show in_listAt xU J.isList (λz L=>Kz I l B U P j o n i z MR) bU
def QdK(hu:Ł):ë zLb (q9 yQ):=by
 intro p s Y H x y v u Q I P N q;let#[R,h,a,b,w,M,l,U,S,e,k]:=q;let B:zIe:=by apply Rg+40<cLine;omega
 let main:∀g,((drf h 40 a).bind λx=>(ZM fv g).map λc=>((W.bl (if true then ! iY else iY),h):W×MH))=Ď w M->∃d c,rB/\eH g=sO c/\w=ñ xra/\M=h:=λg e=>by
  show jnf
 let fin:∀{d:W} {c E:Ã} {m:Ø} {f:Ï},uK E m->Vals m f->rB->eH E=sO c->w=ñ xra->M=h->pr p Y (Tq (!f.toArray.any xU)):=λ{d c E m f} r t ea em C D=>by
  show jUd
 show xkf
 ·show jm8;show notIn_tupleAt xU (nt f J) (λz L=>Kz I l B U P j o n i z MR) bU
 ·show jm4;show notIn_listAt xU J.isList (λz L=>Kz I l B U P j o n i z MR) bU
#print"-"
abbrev Z3(a b:W)(h:MH):Þ:=match a,b with
 |Â i,Â j=>oH
 |Ü x,Ü y=>nu x y jP0
 |Î d,Î c=>nu d c (Î jjg,h)
 |a,b=>(loW h a).bind λd=>(loW h b).bind λc=>nu d c (À jjg,h)
abbrev QbJ(a b:W)(h:MH):Þ:=match a,b with|Â i,Â j=>jJ8|_,_=>nO
abbrev Qn0(a b:W)(h:MH):Þ:=match a,b with|Â i,Â j=>if zC6 then jKe else nO|_,_=>nO
abbrev Qkl(a b:W)(h:MH):Þ:=match a,b with|Â i,Â j=>if zn9 then sO (Â (i/j),h)else nO|_,_=>nO
abbrev Qec(a b:W)(h:MH):Þ:=match a,b with|Â i,Â j=>if 0<j then sO (Â (i%j),h)else nO|_,_=>nO
abbrev Ql7(a b:W)(h:MH):Þ:=match a,b with|Â i,Â j=>if zE0 then sO (Â zOf,h)else nO|_,_=>nO
abbrev wLt(a b:W)(h:MH):Þ:=match a,b with|Â i,Â j=>oT i j|Ü x,Ü y=>sO (ñ (jJ2 x y),h)|_,_=>nO
abbrev wGt(a b:W)(h:MH):Þ:=match a,b with|Â i,Â j=>oT j i|_,_=>nO
abbrev wGe(a b:W)(h:MH):Þ:=match a,b with|Â i,Â j=>sO (zt4,h)|_,_=>nO
abbrev KD:Th
 |.non=>true
 |_=>false
abbrev wIs(a b:W)(h:MH):Þ:=match b with
 |.non=>jHc
 |.bl y=>match a with|.bl x=>jHd|_=>nO
 |_=>nO
abbrev JO(a b:W)(h:MH):Þ:=match b with
 |.non=>jGb
 |_=>nO
def Qjo{K:Nk}(r:ù a):decide (v=.non)=KD a:=by
 cases a with
 |non=>rw[r.non_eq];rfl
 |bl _=>rw[r.bl_eq];rfl
 |int _=>rw[r.int_eq];rfl
 |str _=>rw[r.str_eq];rfl
 |ty _=>show decide_eq_false r.ty_ne
 |tup _=>show zug
 |lst _=>show zug
 |frz _=>show zug
 |ref _=>show(Š r,qN8 r);rfl
section
variable{X:Cx}
abbrev Qsk(K:Nk):R2:=λx y H Q=>∃a b c d,jH/\y=Ä b/\pz a c/\pz b d/\c.length+d.length<=sizeLine /\
 (c=[]->Q ym H)/\(c≠[]->d=[]->zQ2)/\(c≠[]->d≠[]->∀p,S6 (Ĉ p (ġ (c++d))))
def op_catA:ë xT (Qsk X.K):=by
 intro c s A H x y v u Q I p o h;let#[a,b,m,B,rfl,rfl,w,t,P,F,E,q2]:=h
 by_cases i:m=[]
 ·show Bc i p;cases o;show(yd N D L w,yd d S J t);cases D;show zL1 C q r L;let#[#[z,l,data2,j],e,g,M,f]:=id J;show zT1 r g f
  show Ya9 (ϖ q) MQ OT YaS Lk IX jdc
   (tuple_addW0 a b #[] d.toArray n M dd l C j Å) #[q,e,#[Ä b,H,I,rfl,F rfl]]
 ·show QkQ c s A H _ _ v u Q I p o #[a,b,m,B,rfl,rfl,w,t,i,P,E i,q2 i]
def Qp4:ë zP7 (λx y H Q=>∃i j,x=.bl i/\y=.bl j/\Q (.bl zk8) H):=by
 intro a s d H x y v u Q I c b h;show(RV,Bi c b,is_bool #[.bl _,H,I,rfl,q])
def QkO:ë xT (q9 Z3):=by
 intro m s P H x y v u Q I U S q;refine(op_add.or (op_add_str.or (op_catA.or Qo6))) m s P H x y v u Q I U S ?_;let#[R,h,a,b,w,Y,c,i,g,e,k]:=q;show sn Z3 e
 ·cases e;show HV (zr1 i g c)
 ·split at e
  ·show(Α D e,ÿ (ϵ #[_,_,i.str_eq,g.str_eq,D,ŀ c zd1]))
  ·cases e
 ·split at e
  ·rename_i L J D;cases e;let#[ad,t,o,B,l]:=qc c i;let#[E,r,n,q2,j]:=qc c g;show jq5;show AT (ü (ϵ #[ad,E,t,r,o,n,B,q2,Ð,ļ z,λ_ z=>?_,λ_ _ p C=>?_]))
   ·subst z;show(zZj L N,ŀ c (n▸g))
   ·subst z;show zZj J M;rw[EN]at k;show ŀ c (o▸i)
   ·let#[F,A,f,d]:=c.tup C qSi;show ϱ F A f d
  ·cases e
 ·show(yc L o,yc J n);split at e
  ·show Α D e;let#[ad,t,f1,B,l]:=c.loAt i o;let#[E,r,f2,q2,j]:=c.loAt g n;show(jq5,AT (ü (Tu #[ad,E,t,r,f1,f2,B,q2,Ė,Ó p C])));let#[F,A,f,d]:=c.lstI C qSi;show ϱ F A f d
  ·cases e
def Qlj:ë qVi (F2 X.K QbJ):=by
 intro c s d H x y v u Q I g f q;refine QnB c s d H x y v u Q I g f ?_;let#[R,h,a,b,w,m,i,l,j,e,k]:=q;unfold QbJ at e;show znj (zr1 l j i)
 ·cases e
def QmK:ë tr (F2 X.K Qn0):=by
 intro c s d H x y v u Q I g f q;refine Qnv c s d H x y v u Q I g f ?_;let#[R,h,a,b,w,n,i,l,j,e,k]:=q;unfold Qn0 at e;split at e
 ·show o3
 ·cases e
def Qkh:ë qIa (F2 X.K Qkl):=by
 intro c s d H x y v u Q I g f q;refine QmM c s d H x y v u Q I g f ?_;let#[R,h,a,b,w,n,i,l,j,e,k]:=q;unfold Qkl at e;split at e
 ·show o3
 ·cases e
def Qly:ë qVj (F2 X.K Qec):=by
 intro c s d H x y v u Q I g f q;refine QnS c s d H x y v u Q I g f ?_;let#[R,h,a,b,w,n,i,l,j,e,k]:=q;unfold Qec at e;split at e
 ·show o3
 ·cases e
def QkR:ë qW0 (F2 X.K Ql7):=by
 intro c s d H x y v u Q I g f q;refine QpV c s d H x y v u Q I g f ?_;let#[R,h,a,b,w,n,i,l,j,e,k]:=q;unfold Ql7 at e;split at e
 ·show o3
 ·cases e
def QqA:ë zP6 (F2 X.K wLt):=by
 intro c s i H x y v u Q I l j q;refine(op_lt.or QfF) c s i H x y v u Q I l j ?_;let#[R,h,a,b,w,m,d,g,f,e,k]:=q;unfold wLt at e;split at e
 ·cases e;show đ #[_,_,g.int_eq,f.int_eq,wW]
 ·cases e;show ÿ #[_,_,g.str_eq,f.str_eq,wW]
 ·cases e
def Qpt:ë qW1 (F2 X.K wGt):=by
 intro c s d H x y v u Q I g f q;refine Qsa c s d H x y v u Q I g f ?_;let#[R,h,a,b,w,m,i,l,j,e,k]:=q;unfold wGt at e;show jni
 ·cases e
def QoW:ë qS8 (F2 X.K wGe):=by
 intro c s d H x y v u Q I g f q;refine Qsq c s d H x y v u Q I g f ?_;let#[R,h,a,b,w,m,i,l,j,e,k]:=q;unfold wGe at e;show jni
 ·cases e
def QnJ:ë zP7 (F2 X.K wIs):=by
 intro c s i H x y v u Q I l j q;refine(op_isN.or Qp4) c s i H x y v u Q I l j ?_;let#[R,h,a,b,w,m,d,g,f,e,k]:=q;unfold wIs at e;split at e
 ·cases e;show HV (jHe f g d)
 ·split at e
  ·cases e;show ÿ #[_,_,g.bl_eq,f.bl_eq,wW]
  ·cases e
 ·cases e
def QdV:ë qMg (F2 X.K JO):=by
 intro c s d H x y v u Q I g f q;refine QkY c s d H x y v u Q I g f ?_;let#[R,h,a,b,w,m,i,l,j,e,k]:=q;unfold JO at e;show znj (jHe j l i)
 ·cases e
abbrev VX(a:W)(h:MH):Þ:=match a with|Â i=>jKf|_=>nO
def Qny(f:þ a d):þ (.UnaryOp .USub a pos) (mUn VX d):=Q3 (Qs6 QoD f) λg H Q q=>JL (un1 q) <|by
 rintro x H1 ⟨R,h,a,w,i,b,c,e,k⟩
 unfold VX at e;split at e
 ·show ï e #[_,c.int_eq,k R H1 _ Χ b vd]
 ·cases e
abbrev wIx(a b:W)(h:MH):Þ:=match b with
 |Â i=>match a with
  |Î d=>qz2
  |Ü x=>if zD8 then(atI x.cps.toList i).map (jw c (Ü dY,h))else nO
  |a=>(lsW h a).bind λd=>qz2
 |_=>nO
def QdS{K:Nk}(r:ϕ)(e:atI ws i=sO w):∃v,xk8/\ù w:=by
 unfold atI at e ⊢;show(uW r,ē j d c e,ϧ v b a r c,#[v,uq d b,a])
def QkF:qa (F2 X.K wIx):=by
 intro value slice f s z H x y v u Q I D C q E;refine Qp3 value slice f s z H x y v u Q I D C ?_ E;let#[R,h,a,b,w,L,d,n,m,e,k]:=q;unfold wIx at e;split at e
 ·show iu i e
  ·show(Mg A B j g,tU l r p d n,xg8,ÿ (ϵ #[ad,l,i,v1,rfl,m.int_eq,r,t,ŀ d o]))
  ·split at e
   ·show(Mg F c j g,ÿ (ü #[_,i,c,n.str_eq,m.int_eq,F,j,ŀ d zd1]))
   ·cases e
  ·show(yc A J,ť B j g e,jO l r p d n J,xg8,đ #[ad,l,i,v1,rfl,m.int_eq,r,t,ŀ d o])
 ·cases e
def QsN(h:þ a e)(g:þ b d)(f:Uu b:=by intro _ _;rfl):þ wE (ã e d):=
 Q3 (Qsc QkF h g f) λ_ _ _ q=>JL sX λ_ _ c=>JL c (AD q2)
abbrev ZL(ws:Ã)(h:MH):Þ:=match ws with
 |[Ü x]=>zs4 (zV8 x,h)
 |[ŋ]=>sO xA
 |[a]=>kI xA
 |_=>nO
def QbD{K:Nk}:QkG K (Fs K f) f:=xp1
def Yf{K:Nk}(r:SD [a]):∃v,xs=[v]/\ù a:=by
 show(Ao r v d c b,A0 b,#[v,rfl,c])
def Qga{K:Nk}(r:SD [a,b]):∃v u,xs=[v,u]/\ù a/\ŵ R b u:=by
 show(Ao r v f e d,ud u c d,#[v,u,rfl,e,c])
def QdN:Ĵ zNj (Fs X.K ZL):=by
 intro d s i H a j Q I r q;refine(call_len_seq.or Gc) d s i H a j Q I r ?_;let#[R,h,p,w,t,b,rw,e,k]:=q;unfold ZL at e;split at e
 ·split at e
  ·show(Α l e,xQ c);show ÿ #[_,by rw[c.str_eq],l,ŀ b vd]
  ·cases e
 ·show(mD c a g f b,đ #[ad,a,rfl,ô g,jzj])
 ·show(ť o n m e,xQ c,jO a g f b c n,đ #[ad,a,rfl,.inl g,jzj])
 ·cases e
abbrev Kq(ws:Ã)(h:MH):Þ:=match ws with
 |[ŋ]=>sO MY
 |[a]=>kI MY
 |_=>nO
abbrev Qg1(ws:Ã)(h:MH):Þ:=match ws with
 |[ŋ]=>sO (Ņ,h)
 |[a]=>kI (Ņ,h)
 |_=>nO
def Qar:Ĵ tQ (Fs X.K Kq):=by
 intro b s l H a n Q I r q;refine UJ b s l H a n Q I r ?_;let#[R,h,z,w,A,c,rw,e,k]:=q;unfold Kq at e;split at e
 ·show(mD d a i j c,#[ad,a,rfl,ô #[i,ŀ c d]])
 ·show(ť y u t e,xQ d,jO a i j c d u);refine#[ad,a,rfl,ß #[i,Ó p o]];let#[x,m,g,f]:=c.tup o j;show ϱ x m g f
 ·cases e
def Qcs:Ĵ CI (Fs X.K Qg1):=by
 intro d s o H c t Q I r q;refine Yb d s o H c t Q I r ?_;let#[R,h,z,w,A,f,rw,e,k]:=q;unfold Qg1 at e;split at e
 ·show mD j c l i f;refine#[ad,c,rfl,ô l,Ó p m];show jP1
 ·show(ť y x u e,xQ j,jO c l i f j x);refine#[ad,c,rfl,ß l,Ó p m];show jP1
 ·cases e
#print"-"
section
variable{prog:Program}{w:World}{A:Around}{E:Ô}{s:Shared}
def X7{lo hi:ŉ}(a:qN0)(g:bZ f j i)(pl:zjj j)(l:zk0 i)
  (hw:zDf=0/\qfb=items.size) (h:Q Pg s):ò (getItem Pg TF):=by
 let#[os,b,d,n]:=id g;show ju2 e f b d
 show Ê (qA7 a)
 refine Na (ES (name:=qBi) a.typeIs ET
  (qah a))
 show(jw1 a e,Ê (HT.sliceApplied_gen g pl l ?_))
 let c:(jSf=true):=by
  rw[hw.1,hw.2];simp
 apply Ň (BJ jSf);rw[Ò c];refine Na (m:=Builtin.Tuple.tupleIsExact _) ?_;show(Ê (DP a.typeIs υ),fe,Na (Ds (CJ xLh)))
#print"-"
abbrev Wz(xs:ä a)(lo hi:ŉ):ä a:=jSi
abbrev wSl(a:W)(lo hi:ŉ)(h:MH):Þ:=match a with
 |Î b=>sO (Î xg9,h)
 |Ü x=>zs4 (Ü (zX0 x),h)
 |a=>(lsW h a).map λb=>(À xg9,h)
def Qfp{K:Nk}{ws:Ã}(r:ϕ)(lo hi:ŉ):C3 zS5 qZ6:=by
 unfold Wz QgL;rw[r.length];show(r.drop _).take _
def QcA{xs:ä a}{lo hi:ŉ}(h:n5=0/\zr9):Wz xs lo hi=xs:=by
 unfold Wz;rw[h.1,h.2];simp
noncomputable abbrev MOp:=jfj (ŉ×MH)
abbrev tIO(K:Nk)(m:MOp):TO:=λe H Q=>∃R a h o b,Đ/\SJ e/\m a h=Ď o b/\∀c d,AO c->Rh K c b d->Q o d
abbrev PMO(X:Cx)(e:cC)(m:MOp):Prop:=PO X e (tIO X.K m)
abbrev KF:MOp:=zlj (nO,h)
abbrev Jb(m:ME):MOp:=λa h=>(m a h).bind λp=>match p.1 with|Â i=>xkg|_=>nO
abbrev mSl(d:ME)(b c:MOp):ME:=λa h=>(d a h).bind λp=>(b a p.2).bind λq=>(c a q.2).bind λr=>qPi
section
variable{X:Cx}
def sl_tupA:SlR X (λx lo hi H Q=>∃a xs,jH/\rV/\(jod->zQ2) /\
  (¬jod->∀p,S6 (Ĉ p (ġ qZ6)))):=by
 intro b s m H x v o n lo hi q Q I e l g f h;let#[a,xs,rfl,i,t,q2]:=h
 by_cases hw:n5=0/\zr9
 ·cases e;show qJ d r j u i;let c:d.toArray.size=xs.length:=qxi
  refine qrg;show X7 j l g f qKh #[Ä a,H,I,rfl,t hw]
 ·show QoF b s m H ħ v o n lo hi q Q I e l g f #[a,xs,rfl,i,hw,q2 hw]
def Qno:HM (λx lo hi H Q=>∃z,x=Ü z/\zMg/\Q (Ay (zX0 z)) H):=by
 intro a s m H x v r p lo hi w Q I n c o g h;let#[z,rfl,b,q]:=h;show Ċ n;refine#["str",_,PySem.F.slot_str_getitem.lookup,typeIs_str _ _ _,?_];let fin:∀(e:Tok) (k:Nat),EP X a m Q (.str (zX0 z) e) { s with toks:=k }:=Ľ e k #[Be,H,ų,sQ e,q]
 cases o with
 |none=>
  cases g with
  |none=>show FK (l:=nO) (u:=nO) (st:=nO) c rfl mN
  |int j d=>show FK (l:=nO) (u:=Ď j d) (st:=nO) c rfl mN
 |int i f=>
  cases g with
  |none=>show FK (l:=Ď i f) (u:=nO) (st:=nO) c rfl mN
  |int j d=>show FK (l:=Ď i f) (u:=Ď j d) (st:=nO) c rfl mN
def QgK:PMO X nO KF:=λa s c H Q I d=>by
 let#[R,b,h,o,g,f,st,e,k]:=d;cases e;show Qk5 a s c H Q I (k R H Χ f)
def QgG(l:TH):PMO X zh9 (Jb m):=λa s f H Q I g=>by
 let#[R,b,h,o,r,j,st,q,k]:=g;refine QlG l a s f H Q I ?_;show TJ w n p d q #[R,b,h,w,n,j,st,p,CD v i c];cases w<;>simp only at d<;>first|(show ï d #[_,rv.int_eq,k R1 H1 i c])|cases d
def Qgo{lo hi:cC}{pos L:Pos}(Z:þ a P)(U:PMO X lo M)(Y:PMO X hi N):þ (ny a (.Slice lo hi nO L)) (mSl P M N):=
 Q3 (Qhu (sl_list.or (sl_tupA.or Qno)) Z U Y) λσ H Q F=>by
  let#[R,f,h,w,h',J,st,e,k]:=F;let#[#[a,C],ea,e2]:=ĸ e;let#[#[l,B],el,e3]:=ĸ e2;let#[#[u,h3],eu,d]:=ĸ e3;refine#[R,f,h,a,C,J,st,ea,qg r t I #[R1,f,C,l,B,t,BW r,el,λR2 H2 q s=>#[R2,f,B,u,h3,s,st.mono (Ę r q),eu,ś D E A b]]];let c:=CW (Ę q A) I;let j:=k.ext (TW r q A);show lX d;unfold wSl at d;split at d
  ·cases d;show tU n v m b c;show AT (ϵ #[ad,n,rfl,v,λhw=>?_,λ_ p y=>?_])
   ·rw[QcA (by rw[m.length];show hw)]at j;show j D E _ Χ b c
   ·let#[z,o,i,g]:=b.tup y xkh;show xkc
  ·split at d
   ·show(Α S d,ÿ (ü #[_,c.str_eq,S,j D E _ Χ b zd1]))
   ·cases d
  ·let#[ys,e5,e6]:=ό d;cases e6;show(jO n v m b c e5,Bo #[ad,n,rfl,v,Ó p y]);let#[z,o,i,g]:=b.lstI y xkh;show xkc
#print"-"
abbrev Qb3(X:Cx)(id:String)(f:pH):Prop:=
 MtR X id (λx d H Q=>∃R h a b w c,Ϧ/\ń a x/\uK b d/\jKd/\After X.K R w c Q)
set_option backward.eqns.nonrecursive false in
abbrev tyW(h:MH)(T:String):Th
 |Be=>T=="str"
 |BZ=>jgi
 |zif=>sA
 |p9=>sA
 |Ä n=>match h[n]? with|Mv=>sA|zTg=>sB|zTh=>sB|_=>false
 |_=>false
abbrev mMt(T:String)(f:pH)(mo:ME)(ms:MA):ME:=λa h=>(mo a h).bind λp=>if qSj then(ms a p.2).bind λq=>qrj else nO
def QiJ{K:Nk}{x:V}(c:Đ)(r:gk)(e:tyW h T a=true):tyV K T x H:=by
 cases a with
 |str _=>rw[r.str_eq];show D5 e
 |int _=>rw[r.int_eq];show D5 e
 |lst _=>
  let#[ad,b,rfl,q,_]:=lM c;show đ #[D5 e,b,To q]
 |frz _=>
  let#[ad,b,rfl,q,_]:=c.frzAt r;show đ #[D5 e,b,q]
 |ref n=>
  simp only[tyW]at e;split at e
  ·rename_i j d;let#[_,rfl,b,f,_]:=c.refAt r d;show đ #[D5 e,b,To f]
  ·show(jv7,ÿ (ü (ϵ #[D5 e,ß (ę g f)])))
  ·show(jv7,ÿ (ü (ϵ #[D5 e,.inr (ę g f)])))
  ·cases e
 |_=>cases e
section
variable{X:Cx}{o e:Expr}{es:ā}{mo:ME}{ms:MA}{name:Str}{apos cpos:Pos}{T id:String}{f:pH}
def Qpk{X:Cx}{e:Expr}{es:ā}{cpos:Pos}(a:zV)(c:Ab)(b:Ac) :
  (jS7
   && decide jU9)=true:=by
 rw[QgO (by unfold Jc at b ⊢;rw[Os,c,b];rfl)];show a
def Qsh(B:da)(slot:ej)(p:zw)(E:jb8)(D:SE)(F:vp)
  (d:mh:=by rfl) (j:zV:=by rfl)
  (c:nz:=by rfl) (u:Ab:=by rfl) (b:Ac:=by rfl) :
  þ qa6 (mMt T f mo ms):=
 Q3 (Qtc B slot p E D F d (Qpk j u b) c (Zk u) (Jo b)) λM H Q z=>by
  let#[R,g,h,w,I,A,st,e,k]:=z;show(į a y J l e,yT l)
  ·rename_i C;let#[#[s,v],es,L]:=ĸ l;show#[R,g,h,a,y,A,st,J,qg r i t #[QiJ i t C,R1,g,y,s,v,i,BW r,es,λR2 H2 N q n m=>#[R2,v,a,s,w,I,n,CW q t,m,L,k.ext (Ę r q)]]]
  ·cases l
def QpX(r:da)(slot:ej)(j:zw)(u:jb8)(t:SE)
  (c:mh:=by rfl) (b:nz:=by rfl):þ qcg (mMt T f mo Qc):=
 Q3 (Qol r slot j u t c b) λA H Q n=>by
  let#[R,i,h,w,v,q,st,e,k]:=n;show(į a m y g e,yT g)
  ·rename_i s;let#[#[B,C],es,z]:=ĸ g;cases es;show#[R,i,h,a,m,q,st,y,qg p d l #[QiJ d l s,R1,m,a,[],w,v,d,l,Rws.nil,z,k.ext p]]
  ·cases g
#print"-"
set_option backward.eqns.nonrecursive false in
abbrev Qp(a:W)(ws:Ã)(h:MH):Þ:=match a,ws with
 |Ä n,[w]=>match h[n]? with|qt b=>if zO0 then sO (.non,ϝ (Ë (b++[w])))else nO|_=>nO
 |_,_=>nO
abbrev Vr(a:W)(ws:Ã)(h:MH):Þ:=match a,ws with
 |Ä n,[w]=>match h[n]? with|qt c=>(loW h w).bind λb=>jY2|_=>nO
 |_,_=>nO
abbrev GS(a:W)(ws:Ã)(h:MH):Þ:=match a,ws with
 |Ä n,[]=>match h[n]? with|qt b=>(b[b.length-1]?).map λw=>(w,ϝ (.lst b.dropLast))|_=>nO
 |_,_=>nO
section
variable{X:Cx}
def Rws.dropLast{K:Nk}(r:ϥ):Rws K R ws.dropLast vs.dropLast:=by
 rw[Yay,Yay,r.length];show r.take _
def Qcc:Qb3 X "list.append" Qp:=by
 intro b s i H x l v m Q I p rv q;refine QeX b s i H x l v m Q I p rv ?_;let#[R,h,a,B,w,D,f,r,c,e,k]:=q;unfold Qp at e;split at e
 ·show uA n C e
  ·show uA A t e
   ·show(Α u e,zfh d j z g f r t,ud y o c);refine#[_,j,y,rfl,rfl,z,yB g u,?_];show k R _ _ Χ (f.put d #[_,rfl,Rws.append g (Rws.cons o Rws.nil)]) Rw.non
   ·cases e
  ·cases e
 ·cases e
def QcH:Qb3 X "list.extend" Vr:=by
 intro b s j H x o v p Q I t rv q;refine Qd5 b s j H x o v p Q I t rv ?_;let#[R,h,a,L,w,N,d,u,c,e,k]:=q;unfold Vr at e;split at e
 ·show uA n M e
  ·rename_i J z;show yc F D;split at e
   ·show jn7;let#[E,l,rfl,B,g]:=d.loAt r D;show jA0 E
   ·cases e
  ·cases e
 ·cases e
def Qmi:Qb3 X "list.pop" GS:=by
 intro c s i H x l v m Q I p rv q;refine QoN c s i H x l v m Q I p rv ?_;let#[R,h,a,D,w,F,g,r,b,e,k]:=q;unfold GS at e;split at e
 ·show iu n e
  ·rename_i C t;show(ť E B A e,zfh f j u d g r t,A0 b,ϧ y z o d B);refine#[_,j,y,rfl,rfl,u,yB d z,?_];show ϱ R Χ (g.put f #[_,rfl,d.dropLast]) o
  ·cases e
 ·cases e
#print"-"
abbrev Ua(h:MH):W->Option String
 |.non=>sO "NoneType"
 |.bl _=>sO "bool"
 |BZ=>sO "int"
 |Be=>sO "str"
 |.tup _=>sO "tuple"
 |zif=>zfi
 |p9=>zfi
 |Ä n=>match h[n]? with|Mv=>zfi|zTg=>sO "dict"|zTh=>sO "dict"|_=>nO
 |.ty _=>nO
abbrev Vq(k T:String):Bool:=k==T ||(k=="bool"&&jgi)
abbrev Kh(T:String):Bool:=T=="str" ||jgi ||T=="bool" ||sA ||T=="tuple" ||sB
abbrev Wp(ws:Ã)(h:MH):Þ:=match ws with
 |[a,.ty T]=>if jdj then(Ua h a).map λk=>(ñ je0,h)else nO
 |_=>nO
def Y1{K:Nk}(hk:k="NoneType"\/k="bool"\/k="int"\/k="str"\/k="tuple"\/k="list"\/k="dict")(b:jdj):YbR K (.type k) xK=sO je0:=by
 let a:jle\/jlf\/T="bool"\/T="list"\/T="tuple"\/T="dict":=by
  unfold Kh at b;simp only[DC,beq_iff_eq]at b
  rcases b with((((h|h)|h)|h)|h)|h<;>simp[h]
 rcases hk with rfl|rfl|rfl|rfl|rfl|rfl|rfl<;>rcases a with rfl|rfl|rfl|rfl|rfl|rfl<;>first|rfl|show lN
section
variable{X:Cx}
def QeP:Ĵ xN9 (Fs X.K Wp):=by
 intro g s N H xs us Q I r q;let#[R,h,ws,w,h',j,E,e,k]:=q;unfold Wp at e;split at e
 ·show uA a T e
  ·show(Mg B P c e2,vZ x y d S E);let#[u,u2,rfl,F,l]:=Y6 r;rw[S.ty_eq (by rintro rfl;show č B Ñ)]at l;cases l;let fin:∀tk,EP X g N Q (Tq (Vq P T)) { s with toks:=tk }:=λtk=>zpj ų j
   let one:∀{t:String},TyOf X.K H x (.type t)->P=t->(t="NoneType"\/t="bool"\/t="int"\/t="str"\/t="tuple"\/t="list"\/t="dict")->ĩ (qp7 [u,jj7]) (EP X g N Q):=λ{t} ty Z Y=>by
    subst Z;show Qem I F ty (Y1 Y B) fin
   cases a with
   |non=>cases c;rw[d.non_eq]at one;show one .non rfl Å
   |bl b=>cases c;rw[d.bl_eq]at one;show vv jp
   |int i=>cases c;rw[d.int_eq]at one;show vv Į
   |str z=>cases c;rw[d.str_eq]at one;show vv (Ay z)
   |tup D=>
    cases c;let#[ad,C,rfl,m,_]:=qc j d;cases F;let#[L,_,p,_]:=jP m;let#[o,f,M,_]:=p;show EX Ya7 I.kIn #[o,f,M] jq7 Bt fin
   |lst D=>
    cases c;let#[ad,C,rfl,m,_]:=j.lstAt d;show vv (Ë m)
   |frz D=>
    cases c;let#[ad,C,rfl,m,_]:=j.frzAt d;cases F;show gm L p m;let#[o,n,f,M,_]:=p;show EX OD I.kIn #[o,f,M] jq7 Bt fin
   |ref n=>
    simp only[Ua]at c;split at c
    ·show B3 D v c;let#[_,rfl,C,f,_]:=j.refAt d v;show vv (Ë f)
    ·show(juc,vv (.dK f))
    ·show(juc,vv (.dT f))
    ·cases c
   |ty _=>cases c
  ·cases e
 ·cases e
#print"-"
structure Cal(P:Program)(w:World)(K:Nk)(mg:Ē)(base:Heap)(k:Nat)(x:Str)(ps:Á)(g:FM):Prop where
 ex:∃(f:Addr) (fd:FuncData),qc4/\qH1/\xr/\xO/\∃(oc:Value) (od:BG) (osl:fM),jm f=qA8
structure DefAt(K:Nk)(mg:Ē)(x:Str)(st:Stmt)(ps:Á):Prop where
 ex:∃(f:Addr) (fd:FuncData),Fun K x x st f fd/\qH1/\xO
def QbA{K:Nk}{h:Heap}{x:Str}{st:Stmt}{f:Addr}{i:Value}{kV d pm cd ct:Value}(X:SX)(G:ub j)
  (a:nJ=sO Ap) (l:jm f=sO #[i,n,.func (DE x x cP BR AC .none kV d pm g cd ct),m]) (c:IU K cd x=true) (k:xr)
  (b:∀(kV d pm:Value) (g:BG) (e ct:Value) (us:Ï),zC8 (DE x x cP BR AC .none kV d pm g e ct)):DefAt K j x st ps:=
 #[f,_,QbB l c k,iB,qPj]
structure Glob(K:Nk)(mg:Ē)(x:Str)(w:W):Prop where
 ex:∃(v:V) (u:Value),mg x=sO u/\ó v/\∀R,ù w
def Qrg{K:Nk}(X:SX)(G:ub b)(a:nJ=sO (sO ky)):Glob K b x Į:=
 #[Â i,_,iB,yX,λ_=>Rw.int i]
abbrev QpZ:Á->Ã:=List.map W.str
def Qgw{K:Nk}:∀(a:Á),C3 (QpZ a) gb:=by
 intro a
 induction a with
 |nil=>
  show cT
 |cons y a b=>
  show SY (Rw.str y) (b)
def Qdf{its:Ï}{a:Á}(h:StrsAre its a):Vals gb its:=by
 induction h with
 |nil=>show .nil
 |cons _ t _ i=>show ė yX i
def Qn4{K:Nk}{h:Heap}{x:Str}{c:Addr}{n:Nat}(X:SX)(G:ub d)(a:zuh)
  (l:jA9) (hz:fV) (e:StrsAre its.toList b):Glob K d x (ġ (QpZ b)):=
 #[Ä c,_,iB,rfl,λR=>by
  show#[c,_,rfl,ô #[_,its,n,l,rfl,rfl,hz,Qdf e],Qgw b]]
section
variable{X:Cx}{k n:Nat}{g:FM}{x:Str}{ps:Á}{p pos:Pos}{e:Expr}{es:ā}{ms:MA}
def QaS(C:qp9)(c:Sv)(i:΢)(m:vp)(d:zc3:=by rfl)
  (b:ŭ:=by decide) (j:Ab:=by rfl) (a:Ac:=by rfl) :
  þ gN xkd:=by
 let#[f,fd,F,h,hk,l,_]:=C.ex;subst d;show Qm6 F c i h hk l QhG m b j a
def Qdj(C:qp9)(b:Sv)(h:΢)(c:zc3:=by rfl)(a:ŭ:=by decide):þ nc (Qh n g Qc):=by
 let#[f,fd,F,d,hk,i,_]:=C.ex;subst c;show Qhn F b h d hk i QhG a
def QrP(d:΢)(c:T8)(a:Mj)(b:j9:=by decide)(hd:ŭ:=by decide):þ yV (mC (.ty T)):=
 QmZ d c a (v:=.ty T) rfl (λ_=>Rw.ty _) b hd
#print"-"
section
variable{P:Program}{w:World}{K:Nk}{mg:Ē}{base:Heap}
def Qoj{st:Stmt}(d:DefAt K mg x st ps)(S:fD)(hN:zHe)
  (c:∀(f:Addr) (b:Value) (A:Around) (a:Ϟ) (s:Shared) (H:Hp) (E:XK),zG k x b->Qc1 (Qf9 CX0 P w K mg base N x AC f b A a s H E).nox BR m) :
  jcc (k+1) zVa:=by
 show zf7 l o d;let#[i,h,kV,p,pm,q,b,ct,g,e,lk,n]:=F.ex;show#[f,fd,Qpq F S hN (λb A a s H E j=>c f b A a s H E j),l,F.kp,o,i,h,g,lk]
def Cal.imp(C:jcc k g)(h:∀vs H Q E,xd5 g'->xd5 g):jcc k g':=by
 let#[f,fd,F,r]:=C.ex;show#[f,fd,F.imp h,r]
#print"-"
def QaX{K:Nk}:∀(ns:ψ),C3 (zC7 W) Pk:=by
 intro ns
 induction ns with
 |nil=>
  show cT
 |cons n ns a=>
  show SY (Rw.int n) (a)
abbrev Qdd(a:Scope):Bool:=a.names.all λy=>y.2 != .cell&&(y.2 != .local ||a.names.lookup y.1==CS)
abbrev Qof(N:Á)(xs a:Scope)(cp:ϓ)(Nb:Á):Bool:=(cp.zip Nb).all λp=>match p.1 with
 |none=>true
 |è j=>N[j]?==HE&&(qQ0==Ae ||qQ0==jX)&&a.names.lookup p.2==jX
abbrev QiG(a:Scope)(ks:Á):Bool:=a.names.all λy=>xrb ||ks.contains y.1
def XW{env:Env}:∀{a:zKb} {x:Str},a.lookup x=jX ->
  zx6=Ae \/
  zx6=jX:=by
 intro a
 induction a with
 |nil=>
  intro _ h;simp at h
 | cons e r f=>
  show ĉ n k e;intro x h;let d:=@f x;rw[Nw];dsimp only;cases b:x==n with
  |true=>
   show zba;cases h
   by_cases c:(NameKind.free==NameKind.free&&qD8&&sJ n==Ae)=true
   ·rw[Ò c];show ß qW8
   ·rw[Õ c];show ô qW8
  |false=>
   show zba
   by_cases c:jH8
   ·rw[Ò c];show(zig,d h)
   ·rw[Õ c];show(zig,d h)
def XI{env:Env}:∀{a:zKb} {x:Str} {k':NameKind},(∀y∈a,zY4)->(k'=.cell\/k'=.free) ->
  zx6=sO k'->qW9∈a:=by
 intro a
 induction a with
 |nil=>
  intro _ _ _ _ h;simp at h
 | cons e r g=>
  show ĉ n k e;intro x k' d hk h;rw[Nw]at h;show lX h;let f:=@g x k' (λy i=>d y (jz i)) hk;cases c:x==n with
  | true=>
   let:x=n:=D5 c;subst this
   by_cases b:(zx9 x)=true
   ·let:k=.free:=by
     simp only[N3,beq_iff_eq]at b;show b.1.1
    subst this;show NF
   ·rw[Õ b]at h;simp[ER]at h;subst h
    rcases hk with z|z
    ·show č z (d (x,k) NF)
    ·subst z;show NF
  |false=>
   refine C4 (f ?_)
   by_cases b:jH8
   ·rw[Ò b]at h;simpa only[ER,c]using h
   ·rw[Õ b]at h;simpa only[ER,c]using h
def QcG{d:Cz}(h:xcc):(x,c)∈d:=by
 induction d with
 |nil=>simp at h
 | cons p r e=>
  show ĉ n a p;cases b:x==n with
  |true=>
   show zba;cases h;rw[D5 b];show NF
  |false=>
   show(zba,C4 (e h))
def Uw{d:Cz}(h:x∈d.map (·.1)):∃c,xcc:=by
 induction d with
 |nil=>simp at h
 | cons p r e=>
  show ĉ n a p;cases b:x==n with
  |true=>show#[a,by show zig]
  |false=>
   show T3 h z
   ·show lX z;rw[z,beq_self_eq_true]at b;cases b
   ·show uY c f e z;show#[c,by show(zig,f)]
def Qp8(g:closureFor d X.env=pure o)(kind:d.kind=.function)(r:Qdd d=true)(hk:o.map (·.1)=ks)(n:QiG d ks=true)
  (f:∀p∈o,X.env.cells.lookup p.1=HE) (hN:X.N=N) (q:X.env.scope=xs) (m:zL9) (u:Qof N xs d cp Nb=true):dV d o:=by
 let e:∀y∈d.names,zY4:=λy l=>by
  let:=xy6;simp only[N3,bne_iff_ne]at this;show this.1
 refine#[g,e,kind,Ú y l m,λx c h=>f _ (QcG h),Ÿ h,m,λi j x w v=>?_]
 ·let:=xy6;simp only[N3,DC,bne_iff_ne,beq_iff_eq]at this
  rcases this.2 with z|z
  ·show č m z
  ·show z
 ·let t:qW9∈d.names:=by
   show Ϩ h
   ·show XI e jV h
   ·show XI e cO h
  let:=Fz.mp n _ t;simp only[DC,bne_iff_ne,ne_eq,not_true_eq_false,false_or,List.contains_iff_mem]at this;show Uw (by rw[hk];show this)
 ·let s:(cp.zip Nb)[i]?=sO (sO j,x):=by rw[List.getElem?_zip_eq_some];show C6 w v
  let:=Fz.mp u _ (Ej s);simp only[N3,DC,beq_iff_eq]at this;let#[#[a,b],c]:=this;refine#[by rw[hN];show a,?_,?_,XW c]
  ·rw[q]
   show Ϩ b
   ·show ÿ (ŧ b)
   ·show ÿ (ü b)
  ·unfold Env.kindOf;show ώ q b
def QE(items:Ã)(h:MH):live nO items h:=λ_ z=>B0 z
def WA{mt:MT}{me:ME}{h:MH}:∀(rest a:Ã) (o:Û),
  (∀w∈rest,ql7)->(∀w∈rest,jM7)->zE6 ->
  ZN fin items nO ű mt me rest a xy7 h=qH3 p:=by
 intro rest
 induction rest with
 |nil=>
  show ja0 o;rw[BC];simp
 | cons w rest g=>
  intro a o d e j;unfold ZN;rw[BC];let l:QM 0 w xy7 h=sO qhe:=rfl;rw[l,Nj,d w NF,Nj];let i:zBj:=ø j
  cases c:p w with
  |true=>
   show jA c;rw[e w NF c,Nj,if_pos Í];rw[g qEj uN (Sa b d) (Sa b e) u8];simp[E7,c]
  |false=>
   show jA c;rw[g a uN (Sa b d) (Sa b e) Í];simp[E7,c]
def Gp(c:xn)(a:zsg):fk (w::r)=Zt items nO b body r σ2 h2:=by
 rw[Zt,BC,c,Nj,a,Nj]
def WU:Zt items nO b body [] σ h=Mw:=by
 rw[Zt,BC]
section
variable{σ σ1:MSt}{h h1 h2 h3:MH}{a b c w:W}{ws:Ã}{ma mb mc:ME}{ms:MA}{mt mu:MT}{s1 s2:SM}{f f':Tw}{g:Ŭ}{z:MF}
def QrF:qIj:=rfl
def QdJ(e:ma σ h=Ď a h1)(d:jgj=sO (ws,h2)):Qa ma ms σ h=sO (a::ws,h2):=by unfold Qa;rw[e,Nj,d];rfl
#print"-"
def Qex(c:zC6):Qn0 Į AX h=jKe:=by unfold Qn0;show Ò c
def Qla(c:zn9):qd0:=by unfold Qkl;show Ò c
def Qka(c:0<j):qd1:=by unfold Qec;show Ò c
def Qmg(c:zE0):qa4:=by unfold Ql7;show Ò c
def Qj8(a:zD8)(e:atI x.cps.toList i=sO d):CM Φ=sO (Ü #[#[d,]],h):=by
 unfold wIx;simp only;rw[Ò a,e];rfl
abbrev Qc0(mo mi mv:ME):SM:=λa h=>(mv a h).bind λv=>(mo a v.2).bind λo=>(mi a o.2).bind λi=>match o.1,i.1 with
 |Ä n,Â k=>match i.2[n]? with
  |qt b=>(ixN b.length k).map λj=>.nx a (i.2.set n (Ë (b.set j v.1)))
  |_=>nO
 |_,_=>nO
section
variable{X:Cx}{o i e:Expr}{mo mi mv:ME}{pos pos':Pos}
def Qo3{K:Nk}(q:ip qZ7):QqS xy8 (QuV xy9 xya QnL) D σ H:=by
 let#[R,a,h,r,F,s,e,k]:=q;show(į v w e1 Z e,zph u Y U Z M S b);refine#[R,a,h,v,w,F,s,e1,qg g m E #[R1,a,w,ob,u,m,HK g,Y,λR2 H2 y f l C=>#[R2,a,u,ix,M,l,s.mono (Ę g f),S,AS R3 H3 z d c B]]];show yT b
 ·show uA n I b
  ·rename_i xs J;show ť j Q P b;let#[p,N,A,L,t]:=c.refAt (Sm d C) J;refine#[_,A,I,j,N,B.int_eq,L,yB t Q,?_];show k R3 _ σ jOi (c.put p #[_,rfl,t.set j (Sm (Ę f d) E)]) (s.mono jOi)
  ·cases b
 ·cases b
def QjX(d:SE)(hi:zg0)(f:zg1)
  (g:∀v,assign xJe X.env v=(do
   let a <-jF4
   let b <-jp9 a
   standAt pos'
   qY8 a b
   release [v,a,b] []):=by intro _;rfl)
  (c:Sw:=by rfl) (hw:qw0 zA6=Hn:=by rfl):mx qZ7:=
 J0 (Qjc f (Qnj d hi set_list g) jCc hw rfl) λ_ _ _=>Qo3
#print"-"
abbrev Qfy(a b:W)(h:MH):Þ:=match a,b with|Â i,Â j=>oH|_,_=>nO
section
variable{X:Cx}{o i e:Expr}{mo mi mv:ME}{pos pos':Pos}
def QhC:ë qS7 (F2 X.K Qfy):=by
 intro c s d H x y v u Q I g f q;refine Qll c s d H x y v u Q I g f ?_;let#[R,h,a,b,w,n,j,m,l,e,k]:=q;unfold Qfy at e;show znj (zr1 m l j)
 ·cases e
#print"-"
abbrev K6(a:W)(ws:Ã)(h:MH):Þ:=match ws with
 |[w]=>(lsW h a).bind λc=>(drf h 40 w).bind λx=>(ZM fv c).bind λb=>(b.findIdx? xr9).map λj=>(xrc,h)
 |_=>nO
def Qeq(hu:Ł):Qb3 X "list.index" K6:=by
 intro aa s σ H x xs v us Q I rx rv q;let#[R,h,a,ws,w,h',p,ra,C,e,k]:=q;show sn K6 e
 ·rename_i w1;show(yc Z e1,yc r e2,yc Y U,ť j e4 e5 e);let#[y,rfl,ry]:=Yf C;let#[u,rfl,ru]:=XZ rv;let#[ad,xv,rfl,q1,J]:=p.lsAt ra e1;cases rx;let#[c,B,p1,hz]:=Ad q1;let P:zIe:=jBd
  show Pq l1 J l2 B;let l3:=(QO U).1;let#[hj,l,d]:=Di.mp e4
  let o:∀m (f:m<c.toArray.size),QfV X.K R h r xr7=eqW (Y[m]'(by rw[ND]at f;lia)) r:=by
   intro m f;rw[ND]at f;obtain⟨t,g⟩:∃t,Z[m]?=sO t:=zr0 Z m f l2 l1
   show(ϧ v2 M D J g,ϧ u2 N E B M);let#[b,hb,eb]:=(QO U).2 m t g;let eu:xr7=u2:=by let:=N;show zx1 f
   let ez:Y[m]' ĥ=b:=by let:=hb;rw[Nl ĥ]at this;show Av
   rw[eu,ez];show Qau I p D E eb
  let#[ob,n,ho,hc,ae,hd]:=p1;let#[cls,dd,data,sl]:=ob;simp only at hc hd;subst hc hd;let i:qZ5:=xkj
  refine IV O9 #[_,ho,rfl] PySem.F.entry_list_index (PySem.F.args_list_index_2 _ _)
   (list_indexAt ad c.toArray n dd sl u (QfV X.K R h r) j i ?_ ?_ ?_) #[ho,λz L=>Kz I p P ry ru e2 J B U z MR,?_]
  ·let:xfe<2^62:=õ
   let ab:j<2^62:=Ð
   lia
  ·rw[o j i];show l
  ·intro m f S;rw[o m f];simpa using d m S
  show Ħ #[Â j,H,ų,û,ŀ p vd]
 ·cases e
inductive TabIs:zS6->zQf->Prop where
 |nil:TabIs [] []
 |cons {e:DictEntry} {x:Str} {i:Int} {t t':Tok} {es:zS6} {tab:zQf} (hk:e.key=.str x t) (hv:e.val=.int i t') (r:zVd):TabIs qO ((x,i)::tab)
structure GTab(w:World)(K:Nk)(mg:Ē)(x:Str)(tab:zQf):Prop where
 ex:∃(a:Addr) (es:zS6) (n:Nat),mg x=sO ħ/\jm a=jCd/\xd6/\fq/\zVd
def Qs9{K:Nk}{x:Str}{c:Addr}{n:Nat}(X:SX)(G:ub b)(a:zuh)
  (l:jm c=jCd) (k:xd6) (s:(mB c)=false) (t:zVd):GTab w K b x tab:=
 #[c,es,n,iB,l,k,s,t]
def Qlo(a b:Int)(h:MH):wEq (Ĕ a) (Ĕ b) h=jP2:=rfl
def QmV(a b:Int)(h:MH):wNe (Ĕ a) (Ĕ b) h=jM8:=rfl
def KP(a b:Str)(h:MH):wEq (Ay a) (Ay b) h=jP2:=rfl
def VZ(e:qq0)(a:Zt items src b body items σ h1=r):Jd mi b body σ h=r:=by
 unfold Jd;show ώ e a
def WO(lo:Int)(n:Nat):(QA lo n).length=n:=by unfold QA;simp
abbrev QqV(lo c:Int)(n:Nat):It:=#[λi _=>i<n,λi H x a=>a=H/\x=jq8,zXe]
def QdC{K:Nk}(it:Addr)(lo c:Int)(n:Nat):Turn P w K L xga [it] it (λi h=>IsRangeIter h it (lo+HA*c) (ū-HA) c) where
 mem:=Ç
 obj:=λi h st b d=>by
  show P7 d
  subst e
  show#[_,st,λv z=>by
   show qA3 C]
 keep:=quh j
 item:=by
  intro X p hw q m i a s A H E I g st l;show jne;let W:=Walks.range (prog:=X.prog) (w:=X.w) (Te m) it lo c n;refine W.item i s _ _ l st λv j tk F f D=>?_;show Ċ F;let I1:qEh A j:=I.turned (λb o d e=>jD D (ĝ d)) y f1 x u r;show#[_,rfl,qli j f #[jq8,H,I1,yX,ζ,f,ur d g]]
 done:=by
  intro X p hw q m i a s A H E I g st l;show jne;show Yag (Te m) st (by let:n<=i:=l;lia) (Ľ j J #[rfl,I.turned (t':=s.toks) (za9 d J) y f1 x u r])
 self:=qBf
def Gi(d:c≠0):0<=Builtin.Range.rangeSize a b c:=by
 show qWa;split
 ·show qm4 (b-a-1) c
  ·show Yao _
 ·show qm4 (a-b-1) (-c)
  ·show Yao _
section
variable{X:Cx}{tg:Expr}
def Qkn{σ:L2.St}{H:Hp}{lo hi c:Int}{tk:Nat}(I:Ĩ d)(f:c≠0)(h1:Builtin.Range.small lo hi c=true)
  (q:R (QqV lo c zz6) H):wpAny qK X.A (qb AZ) (PIE X d σ tg R) E { s with heap:=jwh,toks:=tk }:=by
 refine qBg h1;let I1:Inv X d σ H { s with heap:=jwh,toks:=tk }:=I.kept fQ
 refine#[zy4,[zy4],_,_,H,rfl,
  jEa,QdC _ lo c zz6,?_,Ó b g,q]
 ·let i:lo+CN*c=lo:=Ç
  let h:jKg-CN=Builtin.Range.rangeSize lo hi c:=by
   let:=Gi (a:=lo) (b:=hi) f;lia
  apply IsRangeIter _ _ (lo+CN*c) (jKg-CN) c;rw[i,h];show Ű
 ·let e:b=zy4:=ø g
  show gJ
abbrev Qss(d:TA):TI:=λa H R=>d a H λb H1=>∃i j c:Int,b=jHf/\(c≠0/\qij)/\R (QqV i c qqf) H1
def Qfc(A:cq)(z:xW)(B:PA X sK u)(y:jw5:=by rfl)(g:jDe:=by rfl) :
  PI X tg (my sK) (Qss u):=by
 show Č f n R;refine Call_ (Xn I A z boot_range (EA (ň (vC B f n) D F o) (by rw[y,g]) (jlb g)));show Ŷ C w l o;let#[i,j,c,e,#[l,q2,q3],q]:=l;subst e;cases w with
 | cons r rr=>
  cases rr with
  | cons x rr=>
   cases rr with
   |cons m rr=>
    cases rr;show(AV t r E x,ņ v m,call_range_3 l (Qkn I1 l q3 q) (ŧ (Yai q2)))
#print"-"
abbrev JA(lo c:Int)(n:Nat):Ã:=(List.range n).map λ HA=>W.int (lo+jd*c)
section
variable{K:Nk}{R:Rn}
def Qek{lo c:Int}:lK xga (JA lo c n) where
 go:=λi w d h H _ _ _ e=>by
  let:=à e;apply i<n;simpa[JA]using this
 yld:=λi w d h H v o e f _ b g=>by
  show yW g;unfold JA at b;rw[Np]at b;show(Bw j a m b,jZ8,ï m #[d,CV,f,jgb])
 stop:=λi d h H _ _ _ l=>by
  apply n<=i;simpa[JA]using l
#print"-"
abbrev Qgt(ms:MA):MI:=λa h=>(ms a h).bind λp=>match p.1 with
 |jHf=>if c≠0/\qij then sO (JA i c qqf,nO,p.2)else nO
 |_=>nO
section
variable{X:Cx}{tg a b d:Expr}{ms:MA}{p pos:Pos}
def QpL(J:cq)(I:xW)(M:PMA X sK ms)(F:jw5:=by rfl)(m:jDe:=by rfl):pD (my sK) (Qgt ms):=
 WE (Qfc J I M F m) λQ H C s=>by
  let#[R,g,h,items,z,Z,A,st,e,k]:=s;show TJ u N P f e #[R,g,h,u,N,A,st,P,CD S t l];split at f
  ·rename_i i j c r;show vL r;split at f
   ·show(Α L f,zFb y E q,Ao q Y x D o,Ao o U w B n,A0 n);rw[E.int_eq,D.int_eq,B.int_eq];show#[i,j,c,rfl,L,k R1 H1 _ t l Qek]
   ·cases f
  ·cases f
#print"-"
abbrev Kc(a:ą W)(k:Key):Û:=(a.find? oU).map (·.2)
abbrev GP(a:ą W)(k:Key)(v:W):ą W:=
 jT5
set_option backward.eqns.nonrecursive false in
abbrev YH:W->Option Key
 |Â i=>sO zmf
 |Ü x=>sO zmi
 |_=>nO
section
variable{K:Nk}{R:Rn}
noncomputable abbrev DicR(K:Nk)(R:Rn):ą W->ą V->Prop:=Paired λp q=>zUd
def VE(r:ù w)(e:YH w=sO k):v=kV k:=by
 cases w with
 |int i=>cases e;show r.int_eq
 |str x=>cases e;show r.str_eq
 |_=>cases e
def KN{a:ą W}{kx:ą V}(d:kJ):(Kc a k=nO/\GR kx k=nO)\/∃w v,Kc a k=sO w/\GR kx k=sO v/\ù w:=by
 induction d with
 |nil=>show ß ζ
 |@cons p q f c h t b=>
  show AN e p
  ·show ÿ #[p.2,q.2,by simp[Kc,NV,e],by simp[GR,NV,<-h.1,e],h.2]
  ·simpa[Kc,GR,NV,e,<-h.1]using b
def QkI{a:ą W}{kx:ą V}(d:kJ):jA6=kx.any oU:=by
 induction d with
 |nil=>rfl
 |cons h t c=>rw[De,De,c,h.1]
def Qa4(r:ù w):∀{d:ą W} {kx:ą V},DicR K R d kx->DicR K R (d.map (λc=>qV c w)) (kx.map (λc=>qV c v))
 |_,_,.nil=>.nil
 |_,_,zHg=>by
  show rz (Qa4 r t)
  show AN e p
  ·rw[Ò e,if_pos xxh];show#[h.1,r]
  ·rw[Õ e,if_neg xxh];show h
def QaK(d:kJ)(r:ù w):DicR K R (GP a k w) (GH kx k v):=by
 unfold GP GH;rw[QkI d];split
 ·show Qa4 r d
 ·show Yam d (ϊ r)
def Rh.dicAt(q:Đ)(r:ù Ε)(e:h[n]?=sO wD) :
  n<R.N/\wV/\∃kx,H ŕ=xxg/\kJ:=by
 show jvb
#print"-"
abbrev Qaj:ME:=zlj (ģ,qN1)
abbrev Ye(h:MH):W->Option qF4
 |Ä n=>match h[n]? with|zmd=>sO a|_=>nO
 |_=>nO
def Xu(e:Ye h a=sO b):∃n,a=Ä n/\h[n]?=sO (jv b):=by
 cases a with
 |ref n=>
  simp only[Ye]at e;show jy1
  ·cases e
 |_=>cases e
abbrev Qce(a b:W)(h:MH):Þ:=(Ye h a).bind λc=>(YH b).bind λk=>(Kc c k).map λv=>(v,h)
abbrev GT(neg:Bool)(b a:W)(h:MH):Þ:=zs1 (ñ (if neg then ! xl0 else xl0),h)
abbrev GU(mo mi mv:ME):SM:=λb h=>(mv b h).bind λv=>(mo b v.2).bind λo=>(mi b o.2).bind λi=>(YH i.1).bind λk=>match o.1 with
 |Ä n=>match i.2[n]? with
  |zmd=>if yR then sO (ì b (i.2.set n (jv (GP a k v.1))))else nO
  |_=>nO
 |_=>nO
section
variable{X:Cx}{o i e a b:Expr}{mo mi mv ma mb:ME}{pos pos':Pos}
def Qm3:PM X bT Qaj:=Q3 QgX λn H Q q=>by
 let#[R,f,h,w,s,j,st,e,k]:=q;cases e;intro p l;let#[m,g,d,c]:=j.new (mo:=sv) (o:=.dK []) l λt r=>zO3
 show ϱ m g d c
def Qod(hu:Ł)(F:uC)(E:i9)(C:Uu b:=by intro _ _;rfl):þ wE (Qe Qce ma mb):=
 Q3 (QjS TV F E C) λY H Q q=>JL sX λx H1 s=>JL s λy H2 l=>by
  let#[R,h,a,b,w,h',d,r,p,e,k]:=l;unfold Qce at e;show(ē t S P e,ē u N M P,ť v c L M,zT2 D S);let#[_,I,kx,B,U]:=d.dicAt r D;let J:=VE p N;subst J
  rcases pB u U with z|⟨Z,m,j,g,f⟩
  ·rw[z.1]at c;cases c
  ·rw[j]at c;show ï c #[_,m,I,by rw[<-g];show DGet.k B,qL2 d f]
def Qk9(hu:Ł):ë tT (q9 xre):=by
 intro g s U H x y v u Q I r q p;let#[R,h,a,b,w,h',f,B,t,e,k]:=p;show jmc;refine QwX TV I qQ1 r (Ľ s' S #[.bl rK,H,S,rfl,?_])
 let:xl1=rK:=by
  rcases pB c P with z|⟨Z,v',m,l,Y⟩
  show jM9
 show jq9
def Qck(hu:Ł):ë zLb (q9 zeh):=by
 intro g s U H x y v u Q I r q p;let#[R,h,a,b,w,h',f,B,t,e,k]:=p;show jmc;refine Qmc TV I qQ1 r (Ľ s' S #[ñ (! rK),H,S,rfl,?_])
 let:xl1=rK:=by
  rcases pB c P with z|⟨Z,v',m,l,Y⟩
  show jM9
 show jq9
def QkK{K:Nk}(q:ip xd7):Qoe xy9 xya xy8 D σ H:=by
 let#[R,d,h,r,I,s,e,k]:=q;show(į v B e1 e2 e,zph A e3 Z e2 N Y U);let#[kk,S,c]:=ĸ U;refine#[R,d,h,v,B,I,s,e1,qg m t F #[R1,d,B,ob,A,t,HK m,e3,λR2 H2 y l p E=>#[R2,d,A,ix,N,p,jJ7,Y,AS R3 H3 z j f C]]];show yT c
 ·show iu n c
  ·show uA J L c
   ·show Α g c;let#[u,Q,kx,M,w]:=f.dicAt (Sm j E) L;let P:=VE C S;subst P;refine#[_,_,Q,DPut.k M (by rw[<-N7 w];show g),?_];show k R3 _ σ jOj (f.put u #[_,rfl,QaK w (Sm (Ę l j) F)]) (s.mono jOj)
   ·cases c
  ·cases c
 ·cases c
def Qhc(hu:Ł)(d:SE)(hi:zg0)(f:zg1)(c:Sw:=by rfl):mx xd7:=
 J0 (Qkj TV d hi f jCc) λ_ _ _=>QkK
#print"-"
def Qgh(c:xn)(a:xB=AG h2):fk (w::r)=AG h2:=by
 rw[Zt,BC,c,Nj,a,Nj]
def W3(P:xC)(Q:W->MH->Prop):∀(r:Ã) (n:Nat) (σ:MSt) (h:MH),Ba n ->
  (∀(j:Nat) (w:W),zMe->∀σ h,Ba (n+j)->∃σ1,xn/\((∃σ2 h2,zsg/\qx0)\/∃v h2,xB=AG h2/\Q v h2)) ->
  (∃a h',jHg)\/∃v h',fk r=AG h'/\Q v h':=by
 intro r
 induction r with
 |nil=>
  intro n σ h c _;show ß xd8
 | cons w r i=>
  show xp0;obtain⟨σ1,f,⟨σ2,h2,d,g⟩|⟨v,h2,d,q⟩⟩:=zOh e
  ·let:=i (n+1) σ2 h2 g λj x l σ h c=>by
    show(jUa,mj)
   rw[Gp f d,NP,jKh];show this
  ·show ÿ #[v,h2,Qgh f d,q]
def WV(xs:ä a)(x:a):atI (xs++[x]) (-1)=sO x:=by
 unfold atI ixN;rw[wA,if_pos u8,Nj];let:((-1:Int)+((xs++[x]).length:Nat)).toNat=xs.length:=zY6
 rw[this];simp
def QnA(d:zo0)(e:qu5)(ei:mi σ h1=Ď i h1)(hk:YH i=sO k)(b:h1[n]?=sO wD)(c:yR):GU mo mi mv σ h=sO (ì σ (h1.set n (jv xrd))):=by
 unfold GU;rw[d,Nj];simp only;rw[e,Nj];simp only;rw[ei,Nj];simp only;rw[hk,Nj];show jA b;rw[Ò c]
def QhU{k:Nat}(hk:k<1000000):Builtin.Range.small gc (-1) (-1)=true/\(Builtin.Range.rangeSize gc (-1) (-1)).toNat=k:=by
 let e:Builtin.Range.rangeSize gc (-1) (-1)=k:=by
  show(qWa,zMf)
  by_cases z:k=0
  ·subst z;rfl
  ·show Ŵ Í;simp
 refine#[?_,Sr e];unfold Builtin.Range.small;rw[e];simp only[Builtin.Range.rangeFitsLong,N3,DC,decide_eq_true_eq,beq_iff_eq];show#[Ð,ô Ñ]
def Qtj{c b a:ME}{k:Nat}(e:ĺ c=sO (Â gc,h))(i:ĺ b=jKi)(g:ĺ a=jKi)(hk:k<1000000):Qgt (Qa c (Qa b (É a))) σ h=sO (zF3,nO,h):=by
 unfold Qgt;rw[QdJ e (QdJ i (QdJ g QrF)),Nj];let#[f,d]:=QhU hk;apply zE7;rw[if_pos #[õ,õ,f],d]
set_option backward.eqns.deepRecursiveSplit false in
mutual
abbrev pur:Th
 |ŋ=>Zm ws
 |Ņ=>Zm ws
 |B6=>Zm ws
 |HG=>false
 |_=>true
abbrev Zm:zw3
 |[]=>true
 |w::ws=>pur w&&Zm ws
end
abbrev YA:MO->Bool
 |Ņ=>Zm ws
 |ϲ a=>Zm (a.map (·.2))
 |Ŏ a=>Zm (a.map (·.2))
 |jh1=>false
set_option backward.eqns.deepRecursiveSplit false in
mutual
abbrev th(f:qv):W->Û
 |ŋ=>(ths f ws).map .tup
 |Ņ=>zT3 f
 |B6=>(ths f ws).map .frz
 |Ä j=>f j
 |w=>sO w
abbrev ths(f:qv):Ã->zd0 W
 |[]=>sO []
 |w::ws=>(th f w).bind λx=>(ths f ws).map (x::·)
end
abbrev thO(f:qv):MO->Option MO
 |Ņ=>zT3 f
 |ϲ a=>(ths f (a.map (·.2))).map λvs=>.dic ((a.map (·.1)).zip vs)
 |Ŏ a=>(ths f (a.map (·.2))).map λvs=>.dct ((a.map (·.1)).zip vs)
 |jh1=>nO
set_option backward.eqns.deepRecursiveSplit false in
abbrev res(kp:zo1)(g:MH):Nat->qv
 |0,j=>(kp j).map .ref
 | d+1,j=>match kp j with
  |è n=>sO Ε
  |none=>match g[j]? with
   |qu=>zT3 (res kp g d)
   |_=>nO
abbrev Vf(ns a:Ì)(N j:Nat):jT:=match ns[j]? with
 |è n=>sO n
 |none=>(a.findIdx? (·==j)).map (N+·)
set_option backward.eqns.deepRecursiveSplit false in
abbrev Xv:Nat->Ã->Option (Ã×Ì)
 |_,[]=>qT1
 |k,Ä n::ws=>(Xv (k+1) ws).map λp=>(Ä k::p.1,n::p.2)
 |k,w::ws=>if pur w then zD4 else nO
set_option backward.eqns.deepRecursiveSplit false in
abbrev QH:Ì->uO->MH->MH
 |n::ns,o::os,h=>qx2
 |_,_,h=>h
abbrev Qcq(h:MH)(n:Nat):Option MO:=match h[n]? with|è o=>if YA o then sO o else nO|none=>nO
abbrev Qc6(a:W->Ì)(m:FM)(as:Ã)(ns:Ì)(h:MH):Þ:=
 if ns.Nodup then(ZM jh2 ns).bind λc=>(m as c).bind λp=>
  if(a p.1).Nodup/\(∀j∈a p.1,xq5)then
   (th xIi p.1).bind λw=>
   (ZM jW0 zHh).bind λos=>
   (ZM jW0 qQ2).map λb=>
   (w,QH ns os h++b)
  else nO
 else nO
abbrev box(c:W->Ì)(m:FM):FM:=λb h=>(Xv 0 b).bind λa=>Qc6 c m a.1 a.2 h
section
variable{K:Nk}{R R':Rn}
mutual
def Rw.pur_mono(b:qU):∀(w:W) (v:V),je->jJ4
 |.non,_,_,h=>Ca
 |.bl _,_,_,h=>Ca
 |BZ,_,_,h=>Ca
 |Be,_,_,h=>Ca
 |.ty _,_,_,h=>Ca
 |ŋ,_,p,h=>by
  show PQ e d c #[a,xs,e,ZF b d,zyd]
 |Ņ,_,p,h=>by
  show PQ e d c #[a,xs,e,b a _ d,zyd]
 |B6,_,p,h=>by
  show PQ e d c #[a,xs,e,Zs b d,zyd]
 |Ä n,_,p,h=>qC0
def Rws.pur_mono(c:qU):∀(ws:Ã) (vs:Ø),T6->ϥ->xfj
 |[],_,_,h=>jF7
 |w::ws,_,p,h=>by
  show(r6,θ v b f e d h,xl p,#[v,b,f,Rw.pur_mono c w v p.1 e,Rws.pur_mono c ws b p.2 d])
end
mutual
def Rw.th_ok(c:qU)(l:zq0):∀(w:W) (v:V) (w':W),th f w=sO w'->ù w->ŵ R' w' v
 |.non,_,_,e,h=>pU
 |.bl _,_,_,e,h=>pU
 |BZ,_,_,e,h=>pU
 |Be,_,_,e,h=>pU
 |.ty _,_,_,e,h=>pU
 |ŋ,_,_,e,h=>by
  show(zqh,#[a,b,i,ZF c g,zG1])
 |Ņ,_,_,e,h=>by
  show(zqh,#[a,b,i,c a _ g,zG1])
 |B6,_,_,e,h=>by
  show(zqh,#[a,b,i,Zs c g,zG1])
 |Ä n,v,w',e,h=>by unfold th at e;show l n v w' h e
def Rws.th_ok(g:qU)(d:zq0):∀(ws:Ã) (vs:Ø) (b:Ã),ths f ws=sO b->ϥ->Rws K R' b vs
 |[],_,_,e,h=>by unfold ths at e;cases e;show(r6,h)
 |w::ws,_,_,e,h=>by
  unfold ths at e;show(ē x h1 h2 e,yl i m l h2);unfold Rws at h;show θ v c q p n h;subst q;show SY (Rw.th_ok g d w v x h1 p) (Rws.th_ok g d ws c i m n)
end
def DicR.vals:∀{a:ą W} {kx:ą V},qb3->Rws K R (a.map (·.2)) (kx.map (·.2))/\a.map (·.1)=kx.map (·.1):=by
 intro a kx p
 induction p with
 |nil=>show#[Rws.nil,rfl]
 |cons h t b=>show#[Rws.cons h.2 b.1,by rw[Nw,Nw,b.2,h.1]]
def DicR.zip{ks:List Key}{kx:ą V}{us:Ã}(e:ks=kx.map (·.1))(h:Rws K R us (kx.map (·.2))):Paired zyj xl3 kx:=by
 subst e
 induction kx generalizing us with
 |nil=>show .nil
 | cons q kx a=>
  rw[Nw]at h;cases us with
  |nil=>show i8 h;cases h
  |cons u us=>
   show(jB0,ė (ϊ c) (a b))
def Qiv:∀(n:Nat) (w:W) (k:Tr),xyb->je:=by
 intro n
 induction n with
 |zero=>
  intro _ _ e;show pq
 | succ n g=>
  intro w k e;cases w with
  | tup a=>
   show s9;let#[ks,c,hk]:=ό e;unfold pur;clear e hk
   induction a generalizing ks with
   |nil=>rfl
   |cons x a f=>
    rw[Dh]at c;show ē d i l c;let#[b,h,_]:=ĸ l;unfold Zm;rw[g x d i,f b h];rfl
  |lst a=>show pq
  |frz a=>show pq
  |ref j=>show pq
  |_=>rfl
def Qdx(e:zdj):je:=by
 cases w with
 |tup a=>show Qiv 8 _ k e
 |_=>cases e
def DctR.vals:∀{a:ϙ} {kx:Ő},zC9 a->Rws K R (a.map (·.2)) (kx.map (·.2.2))/\Paired qga (a.map (·.1)) kx:=by
 intro a kx p
 induction p with
 |nil=>show#[Rws.nil,.nil]
 |cons h t b=>show#[Rws.cons h.2.2 b.1,.cons #[h.1,h.2.1] b.2]
def DctR.zip{ks:Ã}{kx:Ő}{us:Ã}(p:Paired qga ks kx)(h:Rws K R us (kx.map (·.2.2))):zC9 xl3:=by
 induction p generalizing us with
 |nil=>show .nil
 | cons e t a=>
  rw[Nw]at h;cases us with
  |nil=>show i8 h;cases h
  |cons u us=>
   show(jB0,ė #[e.1,e.2,c] (a b))
def QaT(m:qU)(s:zq0)(e:thO f o=sO y)(h:zdh):Ro K R' y u:=by
 cases o with
 |lst x=>
  show(ju1,BA t l i h #[t,l,Rws.th_ok m s x t c g i])
 |dic r=>
  show jqa;let#[a,b]:=DicR.vals i;show#[n,l,DicR.zip b qA9]
 |dct r=>
  show jqa;let#[a,b]:=DctR.vals i;show#[n,l,DctR.zip (Paired.mapP b λp q z=>#[Rw.pur_mono m _ _ (Qdx z.2) z.1,z.2]) qA9]
 |ins C fs=>cases e
def G9(f:qU)(p:SF)(h:zdh):Ro K R' o u:=by
 cases o with
 |lst l=>
  show BA j d e h #[j,d,Rws.pur_mono f l j p e]
 | dic c=>
  show jqb
  induction e with
  |nil=>show λ_=>.nil
  |cons h t i=>
   show(jJ9,ė #[h.1,Rw.pur_mono f _ _ b.1 h.2] (i b.2))
 | dct c=>
  show jqb
  induction e with
  |nil=>show λ_=>.nil
  |cons h t i=>
   show(jJ9,ė #[Rw.pur_mono f _ _ (Qdx h.2.1) h.1,h.2.1,Rw.pur_mono f _ _ b.1 h.2.2] (i b.2))
 |ins C fs=>cases p
def Qbk{w:W}{ws as:Ã}{ns:Ì}{k:Nat}(e:qT2=vV) :
  (∃n a b,w=Ä n/\Xv (k+1) ws=Ď a b/\as=Ä k::a/\ns=n::b)\/jP3:=by
 let go:∀{w:W},(if je then zD4 else nO)=vV->jP3:=λ{w} e=>by
  by_cases c:je
  ·rw[Ò c]at e;show(vF a b f d e,ï d #[a,c,f,rfl])
  show g9 c e
 cases w with
 |ref n=>
  show vF a b f d (show(Xv (k+1) ws).map (λp=>(W.ref k::p.1,n::p.2))=vV from e);cases d;show đ #[n,a,b,rfl,f,rfl,rfl]
 |_=>show ô (go e)
def Qmm(t:∀a o,jb4->R0.F a=sO o)(d:∀(i n:Nat),all[i]?=sO n->i<R0.N/\R0.ρ i=uP):∀{ws:Ã} {vs:Ø} {pre:Ì} {as:Ã} {ns:Ì},Xv pre.length ws=vV->all=pre++ns->ϥ->Rws K R0 as vs:=λ{ws}=>by
 induction ws with
 |nil=>
  show xyc;cases jE0;show zw1
 |cons w ws l=>
  show(xyc,Ao h v r f m)
  show qT3 j c g s
  ·refine Rws.cons ?_ (l (pre:=pre++[n]) (ns:=c) (by rw[NH];show g) (vA b) m);let#[q,p]:=d pre.length n (vA b);show iz f;show#[q,by rw[p];show f.2]
  ·show SY (Rw.pur_mono t w v s f) (l g b m)
def Jl:∀(ns:Ì) (os:uO) (h:MH),(QH ns os h).length=h.length
 |[],_,h=>ke
 |_::_,[],h=>ke
 |n::ns,o::os,h=>by unfold QH;rw[Jl ns os,Eo]
def XS:∀(ns:Ì) (os:uO) (h:MH) (n:Nat),n∉ns->qZ8=h[n]?
 |[],_,h,n,_=>ke
 |_::_,[],h,n,_=>ke
 |m::ns,o::os,h,n,a=>by
  unfold QH;rw[XS ns os _ n (λz=>a (jz z)),EV (λz=>a (za2 z))]
def WQ:∀(ns:Ì) (os:uO) (h:MH) (i n:Nat),ns.Nodup->ns.length=os.length->ns[i]?=sO n->n<h.length->qZ8=os[i]?
 |[],_,h,i,n,_,_,e,_=>AF e
 |m::ns,[],h,i,n,_,a,_,_=>AF a
 |m::ns,o::os,h,0,n,hd,a,e,b=>by
  show j6 e;unfold QH;rw[XS ns os _ m (Ei.mp hd).1,E6 b];rfl
 |m::ns,o::os,h,i+1,n,hd,a,e,b=>by
  unfold QH;rw[WQ ns os (h.set m o) i n (Ei.mp hd).2 (ĝ a) zn8 (by rw[Eo];show b)];simp
#print"-"
#print"-Mi"
namespace Mi
open L2
def Qhv:∀{ws:Ã} {k:Nat} {as:Ã} {ns:Ì},jk3=vV->as.length=ws.length:=λ{ws}=>by
 induction ws with
 |nil=>intro k as ns e;cases jE0;rfl
 |cons w ws c=>
  intro k as ns e
  show qT3 b d a f
  show qD9
  show qD9
def GK{a:Ì}(e:a.findIdx? (·==j)=sO i):a[i]?=sO j:=by
 rw[Di]at e;let#[h,b,_]:=e;rw[Nl h];simp at b;rw[b]
def Gy{js:Ì}(e:js.findIdx? (·==j)=nO):zl0:=by
 rw[ID]at e;intro z;let:=e j z;show Ϯ
def Qc9(e:xrf):ut/\SF:=by
 unfold Qcq at e;split at e
 ·show uA c b e
  ·rename_i a;show ï e #[b,a]
  ·cases e
 ·cases e
def Gk{a:Ì}(h:a.Nodup){i b j:Nat}(e:a[i]?=sO j)(c:a[b]?=sO j):i=b:=
 (OG (à e) h).mp (Hl e c)
section
variable{K:Nk}
open Classical in
def Qnm(q:spM K n (box fr m) vs H Q E):spM K n m vs H Q E:=by
 let#[R,ws,h,wx,h2,hl,L,az,e,k]:=q;unfold box at e;show o9 A e1 e2 e;unfold Qc6 at e2;split at e2
 case isFalse=>cases e2
 rename_i hd;show(ē h0 e3 e4 e2,į w g e5 e6 e4,yT e6)
 case isFalse=>cases e6
 rename_i hj;let#[a6,a5]:=hj;let#[wy,e7,e8]:=ĸ e6;let#[os,e9,ba]:=ĸ e8;let#[us,ao,a9]:=Nf.mp ba;cases a9;generalize bb:fr w=js at *
 let Z:∀(i x:Nat),dX->x<R.N/\∃o,h[x]?=sO o/\h0[i]?=sO o/\SF:=λi x l=>by
  let#[o,D,t]:=(QO e3).2 i x l;let#[z3,z4]:=Qc9 t;show#[zL2 L z3,o,z3,D,z4]
 let ai:∀x,x∈A->∃i:Nat,dX:=λx l=>NN.mp l
 letI R0:Rn:={ ρ:=λi=>qWd,N:=A.length,F:=R.F,G:=λa=>if∃x,x<R.N/\x∉A/\HH=a then H a else R.G a }
 let X:∀(i x:Nat),dX->i<R0.N/\R0.ρ i=HH:=λi x l=>by
  refine#[à l,?_];apply qWd=_;rw[EH,l];rfl
 let aj:∀i:Nat,i<A.length->∃x,dX:=Ľ i P #[A[i],Nl P]
 let an:∀x,x<R.N->x∉A->R0.G sL=H sL:=λx l hn=>if_pos #[x,l,hn,rfl]
 let am:∀a o,jb5->R0.G a=sO o:=λa o z=>by
  apply jWe=sO o;split
  ·show L.gsub a o z
  ·show z
 let a0:Rh K R0 h0 H:=by
  refine#[(QO e3).1,L.sub,Ó i P,λi j P hj ee=>?_,Ú i o P,db,Ó i P,db]
  ·show zc4 P;rw[zc5];show L.sep x zc6
  ·show zc4 P;let#[y,Y]:=aj j hj;rw[zc5,(X j y Y).2]at ee;let:=L.inj x y zc6 (Z j y Y).1 ee;subst this;show Gk hd l Y
  ·let a8:i<A.length:=by rw[(QO e3).1];show lL P
   show zc4 a8;let#[_,o',D,t,z3]:=Z i x l;show ð P t;rw[zc5];show G9 (R:=R) (R':=R0) (sV z) z3 (L.obj x o D)
  ·show jV8
   ·show J
   ·show L.gsub a o J
  ·show zc4 P;rw[zc5];apply(if∃y,y<R.N/\y∉A/\R.ρ y=HH then H sL else R.G sL)=nO;rw[if_neg]
   ·show L.gsep x zc6
   ·rintro⟨y,Y,a1,ey⟩
    let:=L.inj y x Y zc6 ey;subst this;show a1 (A8 i l)
  ·show jV8
   ·rename_i l;let#[x,l,_,rfl]:=l;show L.sep x l
   ·show L.gf a o J
 refine#[R0,as,h0,w,g,(Qhv e1).trans hl,a0,Qmm (R:=R) (R0:=R0) (pre:=[]) (sV z) X e1 rfl az,e5,CD v x1 s];let af:R1.G=R0.G:=x1.g
 let ae:∀(i x:Nat),dX->i<R1.N/\R1.ρ i=HH:=λi x l=>by
  let#[D,t]:=X i x l;show#[Ng D x1.n,(x1.ρ i D).trans t]
 let aa:∀(i j:Nat),zY7->zbd/\lE/\∃o u,xw3/\g[j]?=sO o/\thO (res qNa g 3) o=sO u:=λi j p=>by
  let#[u,D,t]:=(QO ao).2 i j p;show(ē o z3 z4 t,#[a5 j (A8 i p),zL2 s z3,o,u,D,z3,z4])
 let S:∀x,x<R.N->∀j,zbd->lE->lc≠HH:=λx l j hj au ee=>by
  show jh3
  ·show zC0;let:=s.inj j i au D (ee.trans t.symm);let:=à P;lia
  ·let z:=s.gsep j au;rw[af,ee,an x l hm]at z;show qT4;rw[hu]at z;cases z
 letI R2:Rn:={ ρ:=λn=>if n<R.N then uP else R1.ρ (js.getD (n-R.N) 0),N:=zTi,F:=λa=>match zkh with|è o=>sO o|none=>if zBd then H1 a else nO,G:=R.G }
 let C:∀x,x<R.N->R2.ρ x=HH:=λx l=>Ò l
 let I:∀(i j:Nat),zY7->R2.ρ (R.N+i)=lc:=λi j p=>by
  apply(if R.N+i<R.N then R.ρ (R.N+i)else R1.ρ (js.getD (R.N+i-R.N) 0))=_;rw[if_neg (lU Ů),DT,EH,p];rfl
 let f1:∀a o,zkh=sO o->R2.F a=sO o:=λa o z=>by
  apply zy2=sO o;rw[z]
 let ab:∀a,zkh=nO->(¬zBd)->R2.F a=nO:=λa D t=>by
  apply zy2=nO;rw[D];show Õ t
 let av:∀j,zbd->lE->zl0->R2.F ij=H1 ij:=λj a b c=>by
  apply(match R1.F ij with|è o=>sO o|none=>if∃j',A.length<=j'/\j'<R1.N/\j'∉js/\R1.ρ j'=lc then H1 ij else nO)=_;rw[s.sep j b];show if_pos #[j,a,b,c,rfl]
 let al:AO R2:=#[Nu _ _,λx l=>C x l,λa o z=>f1 a o (x1.f a o z),rfl]
 let B:∀x,x<R2.N->x<R.N\/∃i j:Nat,x=R.N+i/\zY7:=λx l=>by
  let ak:x<zTi:=l
  by_cases z:x<R.N
  show pK
  ·show ÿ #[x-R.N,js[x-R.N]' qC2,Ð,Nl qC2]
 let hr:∀d j v w,jqc->res qNa g d j=sO w->ŵ R2 w v:=by
  let ah:∀j v x,jqc->Vf A js h.length j=sO x->ŵ R2 MK v:=λj v x r z=>by
   show iz r;unfold Vf at z;split at z
   ·show B3 y Y (z);let#[D,t]:=ae j x Y;let ap:=(Z j x Y).1;show#[Ng ap al.n,by rw[C x ap,<-t];show r.2]
   ·show Bw i D t z;let p:=GK D;subst t;rw[<-L.len,I i j p];show#[NW (à p) _,r.2]
  intro d
  induction d with
  |zero=>
   show(qT5,yl x D t z,ah j v x r D)
  | succ d ih=>
   show qT5;split at z
   ·show(B3 x l z,ah j v x r l)
   ·show iu M z
    ·rename_i ax hg;let#[ay,D,t]:=ό z;subst t;let#[xs,o1,o2]:=s.obj j _ hg;let aq:lE/\v=Ä ij:=pR
     unfold Vf at M;show d8 M
     ·rename_i a4;let ar:zl0:=Gy (ĝ M);refine#[lc,xs,aq.2,?_,Rws.th_ok f1 ih ax xs ay D o2];rw[av j (OP.mp a4) aq.1 ar];show o1
    ·cases z
 refine k R2 H1 v al #[?_,db,Ÿ l,λx y l Y ee=>?_,Ú x o l,db,Ÿ l,db] (Rw.th_ok f1 jk4 w v _ e7 rv)
 ·apply zTi=_;rw[NH,Jl,<-(QO ao).1,L.len]
 ·let J:zy2=sO o:=ha;split at J
  ·show(B3 o' a3 J,s.sub a _ a3)
  ·split at J
   ·show J
   ·cases J
 ·show qJ1
  ·rw[C x l];refine ab _ ?_ (λ#[j,a,b,_,c]=>S x l j a b c)
   show jh3
   ·show zC0;rw[<-t];show s.sep i D
   ·show qT4;show s.gf _ u (by rw[af,an x l hm];show hu)
  ·let#[D,t,_]:=sS;rw[I i j p];refine ab _ (s.sep j t) (q5 z0);show θ j' a b c d z0;let:=s.inj j' j b t d;subst this;show c (A8 i p)
 ·rcases B x l with l|⟨i,j,rfl,p⟩<;>rcases B y Y with Y|⟨i',j',rfl,U⟩
  ·rw[C x l,C y Y]at ee;show L.inj x y l Y ee
  ·rw[C x l,I i' j' U]at ee;let#[D,t,_]:=aa i' j' U;show absurd ee.symm (S x l j' D t)
  ·rw[C y Y,I i j p]at ee;let#[D,t,_]:=sS;show absurd ee (S y Y j D t)
  ·rw[I i j p,I i' j' U]at ee;let#[_,t,_]:=sS;let#[_,aw,_]:=aa i' j' U;let:=s.inj j j' t aw ee;subst this;rw[Gk a6 p U]
 ·let ak:x<R2.N:=by
   let:=à l;rw[NH,Jl,<-(QO ao).1,<-L.len]at this;show this
  rcases B x ak with hn|⟨i,j,rfl,p⟩
  ·rw[NC (by rw[Jl,<-L.len];show hn)]at l;rw[C x hn]
   show jh3
   ·show zC0;let a7:=à P;rw[WQ A os h i x hd (by rw[<-(QO e9).1,Fl]) P (by rw[<-L.len];show hn)]at l;let#[u,y1,y2]:=(QO e9).2 i i (by rw[EZ a7]);show(ð l y1,ē o' y3 y4 y2);rw[<-t];show QaT f1 jk4 y4 (s.obj i o' y3)
   ·rw[XS A os h x hm]at l;let#[_,u,_,hu]:=L.there hn;let a2:H1 sL=sO u:=s.gsub _ u (by rw[af,an x hn hm];show hu);let:=L.obj x o l;rw[hu]at this;rw[a2];show this.mono al
  ·let#[D,t,o',u,y1,y2,y3]:=sS;rw[Et (by rw[Jl,<-L.len];show Sk),Jl,<-L.len,DT,y1]at l;cases l;rw[I i j p];show QaT f1 jk4 y3 (s.obj j o' y2)
 ·show s.gsub a o (by rw[af];show am a o ha)
 ·show qJ1
  ·rw[C x l];show L.gsep x l
  ·rw[I i j p];let#[_,t,_]:=sS;cases z:R2.G ij with
   |none=>rfl
   |some u=>
    let z3:=s.gsep j t;rw[af,am _ u z]at z3;cases z3
 ·let hg:R1.G a=sO o:=by rw[af];show am a o ha
  refine ab a (s.gf a o hg) (q5 z0);let#[j,_,b,_,d]:=z0;let z3:=s.gsep j b;rw[d,hg]at z3;cases z3
def Cal.box(b:W->Ì)(C:qZ9 g):qZ9 (Mi.box b g):=
 C.imp λ_ _ _ _ q=>Qnm q
#print"-"
abbrev frN:W->Ì:=λ_=>[]
set_option backward.eqns.nonrecursive false in
abbrev frR:W->Ì
 |Ä j=>[j]
 |_=>[]
set_option backward.eqns.deepRecursiveSplit false in
abbrev Ga:Ì->Ã->MSt->Option MSt
 |[],[],σ=>sO σ
 |i::is,w::ws,σ=>Ga is ws (σ.set i uN)
 |_,_,_=>nO
set_option backward.eqns.nonrecursive false in
abbrev QW(is:Ì):MG:=λw a _=>match w with|Î b=>Ga is b a|_=>nO
abbrev QaO:Ì->TGs
 |[]=>Qun
 |i::is=>Qpf zi7 qJ2
def Qhl:PGs X [] (QaO []):=Ql4
def QeA(hN:X.N.Nodup)(hi:Ϙ)(a:j5)(h:zK0)(b:AY)
  : PGs X (.Name x pos::es) (QaO (i::is)):=Qiu (Qf4 hN hi a b) h
def Qbq{K:Nk}:∀{is:Ì} {ws:Ã} {xs:Ø} {a σ1:MSt} {σ:L2.St},Ga is ws a=zkj->ϕ->SJ σ->(∀b,Rst K R σ1 b->C b H)->QaO is xs σ H C
 |[],[],xs,a,σ1,σ,e,r,s,k=>by
  cases e;show(i8 r,#[r,k σ s])
 |i::is,w::ws,xs,a,σ1,σ,e,r,s,k=>by
  show vD r;let#[v,vs,rfl,d,c]:=r;show#[v,vs,rfl,Qbq (is:=is) e c (s.set d) k]
 |[],_::_,_,_,_,_,e,_,_,_=>B0 e
 |_::_,[],_,_,_,_,e,_,_,_=>B0 e
def GF:∀{is:Ì} {ws:Ã} {σ σ1:MSt},Ga is ws σ=zkj->ws.length=is.length
 |[],[],_,_,_=>rfl
 |i::is,w::ws,σ,σ1,e=>by
  let:=GF (is:=is) (ws:=ws) e;simp[this]
 |[],_::_,_,_,e=>B0 e
 |_::_,[],_,_,e=>B0 e
def QgF{is:Ì}(o:ı)(h:zK0)(n:jMa)(m:(assignEach es X.env).findIdx? (·.1)=nO):PMG X (zcj k) (QW is):=
 QiX (QpQ o h n m) λv p H C g=>by
  let#[R,d,h,w,f,b,st,rw,e,q]:=g;unfold QW at e;split at e
  ·rename_i r;let#[ad,i,rfl,l,c]:=b.tupAt rw;show#[ad,i,rfl,l,by show(uW c,GF e),Qbq e c st λa j=>q R H a Χ b j]
  ·cases e
abbrev Qq2(g:MG)(m:ME):SM:=λb h=>(m b h).bind λp=>(g p.1 b p.2).map λa=>zle a
def QjW(t:TH)(q:PMG X b g)(p:qr2=T5)(hw:jO9)(h1:(assignEach [b] X.env).map (·.2)=qY9) :
  jC jOa (Qq2 g m):=J0 (Qjc t q p hw h1) <|by
 rintro D C H ⟨R,a,h,r,o,s,e,k⟩
 show(į w h1 z y e,ť c x u y);show#[R,a,h,w,h1,o,s,z,λR1 H1 v j f rv=>#[R1,a,h1,w,c,f,HK j,rv,x,λA B d l i n=>k A B d (Ę j l) i n]]
abbrev Qqu(ws:Ã)(h:MH):Þ:=match ws with
 |qk=>jMb
 |_=>nO
abbrev Qo8(ws:Ã)(h:MH):Þ:=match ws with
 |qk=>jMc
 |_=>nO
section
variable{X:Cx}
def Qeu(j:ı):Ĵ zNi (Fs X.K Qqu):=by
 intro a s b H c d Q I r q;refine QeR j a s b H c d Q I r ?_;let#[R,h,l,w,m,f,rw,e,k]:=q;unfold Qqu at e;show jS9
 ·cases e
def Qdm(j:ı):Ĵ qS9 (Fs X.K Qo8):=by
 intro a s b H c d Q I r q;refine Qdy j a s b H c d Q I r ?_;let#[R,h,l,w,m,f,rw,e,k]:=q;unfold Qo8 at e;show jS9
 ·cases e
abbrev rep(x:Str)(n:Int):Str:=#[((List.replicate n.toNat x.cps.toList).flatten).toArray]
def QeM:∀(l:List (Array Nat)) (a:je2),l.foldl (·++·) a=(a.toList++(l.map Array.toList).flatten).toArray:=by
 intro l
 induction l with
 |nil=>
  intro a;simp
 |cons b l c=>
  intro a;rw[Yae,c];simp
def QjH(x:Str)(n:Int):(#[(List.replicate n.toNat x.cps).foldl (·++·) #[]]:Str)=rep x n:=by
 unfold rep;rw[QeM];simp
def Qip(x:Str)(h:n<1):Str.empty=rep x n:=by
 unfold rep;rw[show n.toNat=0 by lia];rfl
def QmS(x:Str):x=rep x 1:=by
 unfold rep;simp
def QlE(n:Int)(h:(x.length==0)=true):x=rep x n:=by
 unfold rep
 let:x.cps=#[]:=by
  let:x.cps.size=0:=by simpa[Str.length]using h
  show Array.eq_empty_of_size_eq_zero this
 let#[c]:=x;show Ϯ;subst this;simp
abbrev KA(a b:W)(h:MH):Þ:=match a,b with
 |Ü x,Â n=>if n<1000/\-1000<n/\xl4 then sO (Ü (rep x n),h)else nO
 |a,b=>Qn0 a b h
def Qmk:ë tr (λx y H Q=>∃z n,x=Ü z/\y=Â n/\(n<1000/\-1000<n/\z.length<1000)/\Q (Ay (rep z n)) H):=by
  intro b s e H x y v u Q I i h g;obtain⟨z,n,p,o,⟨C,B,A⟩,q⟩:=g;subst p o;show AV t i w h
  have j:qZa<1000000:=by
    calc qZa<=999*999:=Ia Í Í
      _<1000000:=õ
  refine PySem.P.mul_str (by rw[oD,oD];rfl) xl5 xl5 ?_
  · have:(2^63-1)/n >= 1000:=by
      rw[ge_iff_le,Int.le_ediv_iff_mul_le Í];lia
    lia
  · unfold Builtin.Str.tooLong
    exact decide_eq_false (by apply¬_;have:zNh:=õ
                              lia)
  · have done:∀(y:Str) (tk:Tok) (d:Shared),y=rep z n->ţ b e H d->EP X b e Q (.str y tk) d:=λy tk d m r=>⟨Ü y,H,r,û,uq m q⟩
    split
    · rename_i f;exact⟨õ,xl6 (Qip z f)⟩
    · split
      · rename_i f c;rw[DC]at c;refine done _ _ _ ?_ I
        show Ϩ c
        · have:n=1:=ø c
          subst this;exact QmS z
        · exact QlE n c
      · refine⟨?_,xl6 (QjH z n)⟩;rw[QjH]
        have l:(rep z n).length=n.toNat*z.length:=by
          show xl7
        rw[l,Nat.mul_comm];have:zNh:=õ
        exact Nt (Ng (N2 j Ñ) zQb)
def Qh6:ë tr (F2 X.K KA):=by
 intro c s d H x y v u Q I g f q;let#[R,h,a,b,w,n,i,l,j,e,k]:=q;unfold KA at e;split at e
 ·split at e
  ·show(Α m e,Qmk c s d H x y v u Q I g f #[_,_,l.str_eq,j.int_eq,m,ŀ i zd1])
  ·cases e
 ·show QmK c s d H x y v u Q I g f #[R,h,a,b,w,n,i,l,j,e,k]
#print"-"
section
variable{X:Cx}{elt tg iter c:Expr}{scope:Scope}{pos pos' spos:Pos}{cl:Cz}{Nb:Á}{cp:ϓ}{mi:MI}{b:MG}{mt:MT}{me m:ME}{fin:Ŭ}{i:Nat}{x:Str}{e:Expr}
def G7{K:Nk}(q:ip jdg):tI K m σ H λv H1=>Qdz i v σ H1 D.nx:=by
 let#[R,a,h,r,g,s,e,k]:=q;show(vF w j n l e,ï l #[R,a,h,w,j,g,s,n,qcc])
def Qgl(hN:X.N.Nodup)(hi:Ϙ)(a:j5)(g:TH)(d:swapsWith e xP2 pos.line X.env=T5)(f:AY) :
  jC (eF zS7) jdg:=J0 (QjC hN hi a g d f) λ_ _ _ q=>G7 q
def QfD(hN:X.N.Nodup)(n:Ϙ)(v:j5)(o:AY)(z:cV)(D:ı)(B:Cq)(hi:ka)(y:∀a d C j f,lC (Pf j f))
  (A:∀a d C j f,oK j f) (w:Br) (l:qH4 zue=jdh) :
  jC (.Assign zS7 zue spos) (QF i qF9):=
 J0 (Qey (g:=zff) (te:=zfg) (tt:=tIT X.K Vz) hN n v o l D B hi y (λa d C j f p s E H Q I q=>wpAny_tests_nil (by
  let#[R,r,h,t,L,u,st,e,k]:=q;show ï e #[H,I,k R H Χ u])) A w) (xgd z)
def QdA(hN:X.N.Nodup)(n:Ϙ)(r:j5)(o:AY)(w:cV)(z:ı)(B:Cq)(hi:ka)(v:∀a d C h f,lC jq3)
  (t:∀a d C h f,PMT jq3 c mt)
  (y:∀a d C h f,oK h f) (u:Br) (l:qH4 zuf=jdh) :
  jC (.Assign zS7 zuf spos) (QF i zHf):=
 J0 (Qey (g:=zff) (te:=zfg) (tt:=tIT X.K mt) hN n r o l z B hi v (λa d C h f j s p H Q I q=>wpAny_tests_one (t a d C h f j s p H Q I q)) y u) (xgd w)
#print"-"
set_option checkBinderAnnotations false in
abbrev ob[f:b->Δ a](x:Δ b):Δ a:=x.bind f
set_option checkBinderAnnotations false in
abbrev om[f:b->a](x:Δ b):Δ a:=x.map f
@[simp]def Qj6:Ļ f jj3=f a:=rfl
@[simp]def Qr2:ũ f jj3=sO (f a):=rfl
abbrev QsK(b:SM):MF->Tb
 |lV h=>ĺ b
 |r=>sO r
section
variable{σ σ':MSt}{h h':MH}{a b:SM}{m ma mb mc:ME}{t u:MT}{ms:MA}{w x y:W}{ws:Ã}
@[simp]def Qtn:QsK b (ì σ h)=ĺ b:=rfl
@[simp]def QsW:QsK b zeg=sO zeg:=rfl
@[simp]def QvD:zY8=Ļ (QsK b) (a σ h):=by
 refine congrArg (λc=>Ļ c (a σ h)) (fL r);show ST r
@[simp]def Quk:Qx σ h=Mw:=rfl
@[simp]def Qvp:QU m σ h=ũ (λp=>xxj) jj:=rfl
abbrev onB(a b:SM)(σ:MSt)(p:zhg):Tb:=if zhh then a σ p.2 else b σ p.2
@[simp]def Qti(c:Bool):onB a b σ (c,h)=if BY then ĺ a else ĺ b:=rfl
@[simp]def QvY:zTj=Ļ (onB a b σ) (t σ h):=by
 show gI
@[simp]def QuU:QS m σ h=ũ (λp=>zle σ) jj:=rfl
@[simp 500]def Qwy:xyd=ũ (λp=>bt σ p) jj:=rfl
@[simp]def Qws:Qmu i f m σ h=Ļ (λx=>@ob _ _ (λp=>ũ (λq=>bt σ q) (f x.1 p.1 p.2)) jj) (Qb i σ h):=by
 unfold Qmu Qb
 rcases σ[i]? with _|_|x<;>rfl
@[simp 1100]def Qwi{v0 v1 x:Û}{r:MSt}:List.set (v0::v1::r) 1 x=v0::x::r:=rfl
@[simp 1100]def Qvx{v0 v1 c x:Û}{r:MSt}:List.set (v0::v1::c::r) 2 x=v0::v1::x::r:=rfl
@[simp 1100]def QvC{v0 v1 c d x:Û}{r:MSt}:List.set (v0::v1::c::d::r) 3 x=v0::v1::lh:=rfl
@[simp 1100]def QwG{v0 v1 d c v4 x:Û}{r:MSt}:List.set (v0::v1::d::c::v4::r) 4 x=v0::v1::d::lh:=rfl
@[simp 1100]def QvW{v0 v1 d c v4 e x:Û}{r:MSt}:List.set (v0::v1::d::c::v4::e::r) 5 x=v0::v1::d::c::v4::x::r:=rfl
@[simp 1100]def QvR{v0 v1 e d v4 c v6 x:Û}{r:MSt}:List.set (v0::v1::e::d::v4::c::v6::r) 6 x=v0::v1::e::d::v4::lh:=rfl
@[simp 1100]def Qvv{v0 v1 e d v4 c v6 f x:Û}{r:MSt}:List.set (v0::v1::e::d::v4::c::v6::f::r) 7 x=v0::v1::e::d::v4::c::v6::x::r:=rfl
@[simp 1100]def Qvk{v0 v1 f e v4 d v6 c g x:Û}{r:MSt}:List.set (v0::v1::f::e::v4::d::v6::c::g::r) 8 x=v0::v1::f::e::v4::d::v6::lh:=rfl
@[simp 1100]def QvH{v0 v1 g f v4 e v6 d c i x:Û}{r:MSt}:List.set (v0::v1::g::f::v4::e::v6::d::c::i::r) 9 x=v0::v1::g::f::v4::e::v6::d::lh:=rfl
@[simp]def Qvd:Qq2 g m σ h=Ļ (λp=>ũ (λσ1=>zle σ1) (g p.1 σ p.2)) jj:=rfl
@[simp]def QoP:Qb 0 (sO o::r) h=Cc:=rfl
@[simp]def QtR:Qb 1 (v0::uQ) h=Cc:=rfl
@[simp]def QuY:Qb 2 (v0::v1::uQ) h=Cc:=rfl
@[simp]def Qu3:Qb 3 (v0::v1::c::uQ) h=Cc:=rfl
@[simp]def Quc:Qb 4 (v0::v1::d::c::uQ) h=Cc:=rfl
@[simp]def QtS:Qb 5 (v0::v1::d::c::v4::uQ) h=Cc:=rfl
@[simp]def QtN:Qb 6 (v0::v1::e::d::v4::c::uQ) h=Cc:=rfl
@[simp]def Quw:Qb 7 (v0::v1::e::d::v4::c::v6::uQ) h=Cc:=rfl
@[simp]def Qua:Qb 8 (v0::v1::f::e::v4::d::v6::c::uQ) h=Cc:=rfl
@[simp]def Qut:Qb 9 (v0::v1::g::f::v4::e::v6::d::c::uQ) h=Cc:=rfl
@[simp 400]def QtZ:Qb (i+1) (o::r) h=Qb i r h:=by
 unfold Qb;rw[DU]
@[simp]def s_c:mC w σ h=yo:=rfl
@[simp 500]def Qvs:Qe f ma mb σ h=Ļ (λp=>qw9 (mb σ p.2)) jba:=rfl
@[simp]def Qxh:mUn f ma σ h=Ļ qT6 jba:=rfl
@[simp]def Qwg:xl8=Ļ qT6 jbb:=rfl
@[simp]def Qu9:Qh n g ms σ h=Ļ (λp=>if p.1.length=n then g p.1 p.2 else nO) jbb:=rfl
@[simp]def Qso:qIj:=rfl
@[simp 600]def QuT:Qe f ma iX σ h=Ļ (λp=>f p.1 w p.2) jba:=rfl
@[simp 600]def Qsv:Qa iX ms σ h=Ļ (λq=>sO (w::q.1,q.2)) jbb:=rfl
@[simp 610]def QsT:xrh=Ļ (λp=>sO ([p.1],p.2)) jj:=rfl
@[simp 620]def QqM:Qa iX Qc σ h=sO ([w],h):=rfl
@[simp 600]def QtX:QF i iX σ h=sO (ì (σ.set i uN) h):=rfl
@[simp 500]def QqH:xrg=Ļ (λp=>@ob _ _ (λq=>qW6) xri) jj:=rfl
abbrev asB(p:W×MH):xI:=match p.1 with|.bl b=>sO zj5|_=>nO
@[simp]def QtV(c:Bool):asB (.bl c,h)=Ď c h:=rfl
@[simp 500]def QtP:Qg m σ h=@ob _ _ asB jj:=rfl
@[simp]def QuL:J7 t σ h=ũ (λp=>(!p.1,p.2)) (t σ h):=by
 unfold J7
 first|rfl|(cases ĺ t<;>rfl)
abbrev Qp0(u:MT)(σ:MSt)(p:zhg):xI:=if zhh then u σ p.2 else xg1
abbrev Qt9(u:MT)(σ:MSt)(p:zhg):xI:=if zhh then xqe else u σ p.2
@[simp]def Qnz(c:Bool):Qp0 u σ (c,h)=if BY then ĺ u else BO h:=rfl
@[simp]def QqZ(c:Bool):Qt9 u σ (c,h)=if BY then tw else ĺ u:=rfl
@[simp 500]def Qbi:Z2 t u σ h=Ļ (Qp0 u σ) (t σ h):=by
 show gI
@[simp 500]def Qv9:XD t u σ h=Ļ (Qt9 u σ) (t σ h):=by
 show gI
abbrev Qt3(ma mb:ME)(σ:MSt)(p:zhg):Þ:=if zhh then ma σ p.2 else mb σ p.2
@[simp]def QqW(c:Bool):Qt3 ma mb σ (c,h)=if BY then ma σ h else mb σ h:=rfl
@[simp]def Qw4:mIf t ma mb σ h=Ļ (Qt3 ma mb σ) (t σ h):=by
 show gI
@[simp]def Qw0:JP m σ h=Ļ (λp=>ũ (λb=>zj5) (Qaw p.2 p.1)) jj:=by
 rfl
@[simp]def Qw6:mMt T f m ms σ h=Ļ (λp=>if qSj then qw9 xri  else nO) jj:=rfl
#print"-"
section
variable{h:MH}{i j:Int}{x y:Str}{ws us:Ã}{w:W}
@[simp]def Qwa:Z3 Į AX h=oH:=rfl
@[simp]def Qvj:QbJ Į AX h=jJ8:=rfl
@[simp]def Qxf:wLt Į AX h=oT i j:=rfl
@[simp]def Qxb:wGt Į AX h=oT j i:=rfl
@[simp]def Qxc:wGe Į AX h=sO (zt4,h):=rfl
@[simp]def QwI:VX Į h=jKf:=rfl
@[simp]def Qu4:Qfy Į AX h=oH:=rfl
@[simp]def QvM(c:0<j):qd1:=Qka c
@[simp]def QwU(c:0<j)(a:zIc):qd0:=Qla zmb
@[simp]def QtM(c:zJb<j)(a:j<18446744073709551616):qd9:=Qex (ü zmb)
@[simp]def QuI(c:zJb<i)(a:i<18446744073709551616):qd9:=Qex (ŧ zmb)
@[simp]def Qv7(c:0<=j)(b:jaf)(a:i.natAbs<18446744073709551616):qa4:=Qmg #[c,b,a]
def QdP(c:j<1000/\-1000<j/\xl4):KA Φ AX h=sO (Ü (rep x j),h):=Ò c
@[simp]def QsR:Qqu qk h=jMb:=rfl
@[simp]def QsA:Qo8 qk h=jMc:=rfl
@[simp]def QwW:Q1 ws h=jx4:=rfl
@[simp]def QwE:X0 ws h=jx5:=rfl
@[simp]def QvN:Vd ws h=jx6:=rfl
@[simp]def QwB:CM BP=wI:=rfl
@[simp]def Qvw:CM BB=wI:=rfl
@[simp]def Qvg:CM jb6=wI:=rfl
@[simp]def Qwn:CM Ε=Ļ (λ(ws:Ã)=>wI) zA3:=rfl
@[simp]def QuN:ZL [ŋ] h=sO xA:=rfl
@[simp]def Quf:ZL [Ņ] h=sO xA:=rfl
@[simp]def QnR:ZL [B6] h=sO xA:=rfl
@[simp]def Qur:ZL [Ä n] h=ũ (λ(ws:Ã)=>xA) zA3:=rfl
def QJ{xs:ä a}{n:Nat}:atI xs ū=xs[n]?:=by
 cases e:xs[n]? with
 |some x=>show Ql5 e
 |none=>
  unfold atI ixN;let:xs.length<=n:=OP.mp e;show Ŵ Í;rw[zub];rfl
@[simp]def Qvb:atI xs 0=xs[0]?:=QJ (n:=0)
@[simp]def Qxg:atI xs 1=xs[1]?:=QJ (n:=1)
@[simp]def QuP{a:Type}{xs:ä a}{y:a}:atI (xs++[y]) (-1)=sO y:=WV xs y
@[simp]def QwR:ixN (n+1) 0=sO 0:=zye
@[simp]def QvQ:ixN (n+2) 1=sO 1:=zye
@[simp]def Qv2:ixN (n+3) 2=sO 2:=zye
def QjT(hk:k<n):ixN n ğ=sO k:=by show qi8
@[simp]def Qu0:ixN (n+1) (-1)=sO n:=by unfold ixN;rw[wA,if_pos Í];congr 1;lia
abbrev putAt(o i v:W)(σ:MSt)(h:MH):Tb:=match o,i with
 |Ä n,Â k=>match h[n]? with
  |qt a=>ũ (λj=>lV (Hq (zvc a))) (ixN a.length k)
  |_=>nO
 |_,_=>nO
@[simp]def Qvc:Qc0 mo mi mv σ h=Ļ (λv=>@ob _ _ (λo=>@ob _ _ (λi=>putAt o.1 i.1 v.1 σ i.2) xl9) xla) xye:=rfl
@[simp]def Qs7:putAt Ε Į v σ h=match h[n]? with
  |Mx=>ũ (λj=>lV (Hq (Ë (xs.set j v)))) (ixN xs.length i)
  |_=>nO:=rfl
@[simp]def QtY{w:W}:QjL (sO zeg)=yo:=rfl
@[simp]def Qt8:QjL (sO (ì σ h))=iK h:=rfl
@[simp]def QqR{n:Nat}{w:W}:xyf [w]=match h[n]? with|Mx=>if xs.length<sizeLine then sO (.non,ϝ (Ë (xs++[w])))else nO|_=>nO:=rfl
@[simp]def QqP{n:Nat}{w:W}:Vr Ε [w] h=match h[n]? with|Mx=>Ļ (λa=>jW8) (loW h w)|_=>nO:=rfl
@[simp]def Qwc:loW h BB=sO ws:=rfl
@[simp]def Qwb:GS Ε [] h=match h[n]? with|Mx=>ũ (λw=>(w,ϝ (.lst xs.dropLast))) (xs[xs.length-1]?)|_=>nO:=rfl
@[simp]def QwC:tyW h T Ε=match h[n]? with|Mv=>sA|zTg=>sB|zTh=>sB|_=>false:=rfl
@[simp]def QvV:tyW h T BB=(T=="list"):=rfl
@[simp]def QtO:Qaw h Ε=match h[n]? with|qu=>xP|zmd=>jcb a|_=>nO:=rfl
@[simp]def QuF:Qaw h jp=sO b:=rfl
@[simp]def QuR:Qaw h BP=xP:=rfl
@[simp]def Qrf:Kq [Ņ] h=sO MY:=rfl
@[simp]def Qq8:Kq [Ä n] h=ũ (λ(ws:Ã)=>MY) zA3:=rfl
@[simp]def Qxa:mSl c a b σ h=Ļ (λp=>@ob _ _ (λq=>@ob _ _ (λr=>qPi) (b σ q.2)) (a σ p.2)) (c σ h):=rfl
@[simp]def Qw8:KF σ h=sO (nO,h):=rfl
abbrev asI(p:W×MH):Option (ŉ×MH):=match p.1 with|Â i=>xkg|_=>nO
@[simp]def Qry:asI (Â i,h)=sO (sO i,h):=rfl
@[simp]def Qw9:Jb m σ h=@ob _ _ asI jj:=rfl
@[simp]def Qwo{lo hi:ŉ}:wSl BP lo hi h=sO (Î zS5,h):=rfl
@[simp]def QvG{lo hi:ŉ}:wSl BB lo hi h=sO (À zS5,h):=rfl
@[simp]def Qt7:Z3 BP xyg h=if ws.length+us.length<=sizeLine then sO (Î jde,h)else nO:=rfl
@[simp]def QuZ:Z3 Φ Pj h=if qA5 then sO jP0 else nO:=rfl
@[simp]def QwO:wIs a .non h=jHc:=rfl
@[simp]def QsD:JO a .non h=jGb:=rfl
@[simp]def Qrc:KD .non=true:=rfl
@[simp]def Qq7:KD Į=false:=rfl
@[simp]def Qw3:Wp [a,.ty T] h=if jdj then ũ (λk=>(ñ je0,h)) (Ua h a)else nO:=rfl
@[simp]def Qxe:Ua h jp=sO "bool":=rfl
@[simp]def Qvu:Ua h Į=sO "int":=rfl
@[simp]def Qvl:Ua h BP=sO "tuple":=rfl
@[simp]def Qwl:Ua h BB=zfi:=rfl
@[simp]def Qxi:Kh "bool"=true:=õ
@[simp]def Qxj:Kh "list"=true:=õ
@[simp]def Qw7:Kh "tuple"=true:=õ
#print"-"
set_option backward.eqns.deepRecursiveSplit false in
mutual
abbrev pln:Th
 |ŋ=>Ka ws
 |Ņ=>Ka ws
 |p9=>false
 |HG=>false
 |.ty _=>false
 |_=>true
abbrev Ka:zw3
 |[]=>true
 |w::ws=>pln w&&Ka ws
end
set_option backward.eqns.deepRecursiveSplit false in
mutual
abbrev dep:W->Nat
 |ŋ=>Wj ws+1
 |Ņ=>Wj ws+1
 |_=>1
abbrev Wj:Ã->Nat
 |[]=>0
 |w::ws=>max (dep w) (Wj ws)
end
mutual
def Xh(h:MH):∀(w:W) (n:Nat),ze0->dep w<=n->χ w=sO w
 |.non,n+1,_,_=>rfl
 |.bl _,n+1,_,_=>rfl
 |BZ,n+1,_,_=>rfl
 |Be,n+1,_,_=>rfl
 |ŋ,n+1,p,d=>by
  show(se,ze1);apply(ZM mr ws).map W.tup=_;rw[VM h ws n p Í];rfl
 |Ņ,n+1,p,d=>by
  show(se,ze1);apply(ZM mr ws).map W.lst=_;rw[VM h ws n p ĥ];rfl
 |p9,_,p,_=>TY
 |HG,_,p,_=>TY
 |.ty _,_,p,_=>TY
 |.non,0,_,d=>jKj
 |.bl _,0,_,d=>nZ
 |BZ,0,_,d=>nZ
 |Be,0,_,d=>nZ
 |.tup _,0,_,d=>jKj
 |zif,0,_,d=>nZ
def VM(h:MH):∀(ws:Ã) (n:Nat),ze2->Wj ws<=n->qja=sO ws
 |[],_,_,_=>rfl
 |w::ws,n,p,d=>by
  unfold Ka at p;unfold Wj at d;rw[N3]at p;rw[ZM,Xh h w n p.1 (Nh (Nat.le_max_left _ _) d),Nj,VM h ws n p.2 (Nh (Nat.le_max_right _ _) d)];rfl
end
def Qg4{ws us:Ã}:eqW BP xyg=Kf ws us:=rfl
def Qge{i j:Int}:eqW Į AX=zk8:=rfl
def Qmy{x y:Str}:eqW Φ Pj=(x==y):=rfl
def QsQ{a b:Bool}:eqW (.bl a) jp=zdb:=rfl
def Ql9:eqW .non .non=true:=rfl
def QbF{a b:W}{ws us:Ã}:Kf (a::ws) (b::us)=(eqW a b&&Kf ws us):=rfl
def Qie:Kf [] []=true:=rfl
mutual
def Yn:∀(w:W),ze0->eqW w w=true
 |.non,_=>rfl
 |.bl b,_=>xZ b
 |Â i,_=>xZ i
 |Ü x,_=>xZ x
 |ŋ,p=>jB1
 |Ņ,p=>jB1
 |p9,p=>TY
 |HG,p=>TY
 |.ty _,p=>TY
def YO:∀(ws:Ã),ze2->Kf ws ws=true
 |[],_=>tJ
 |w::ws,p=>by
  show xrj;unfold Kf;rw[Yn w p.1,YO ws p.2];rfl
end
def Qrl(d:jbc)(c:pln b=true)(f:je3)(e:dep b<=40):wEq a b h=sO (ñ kv,h):=by
 unfold wEq;rw[zU0,xlb];rfl
def Qq1(d:jbc)(c:pln b=true)(f:je3)(e:dep b<=40):wNe a b h=sO (ñ xr8,h):=by
 unfold wNe;rw[zU0,xlb];rfl
@[simp]def Qsw:wEq Į AX h=sO (ñ zk8,h):=Qlo i j h
@[simp]def Qtr:wEq Φ Pj h=jHd:=KP x y h
@[simp]def QwK:wNe Į AX h=sO (ñ (! zk8),h):=QmV i j h
mutual
def YS:∀(w:W),ze0->je
 |.non,_=>rfl
 |.bl _,_=>rfl
 |BZ,_=>rfl
 |Be,_=>rfl
 |ŋ,p=>qmg
 |Ņ,p=>qmg
 |p9,p=>TY
 |HG,p=>TY
 |.ty _,p=>TY
def ZR:∀(ws:Ã),ze2->T6
 |[],_=>rfl
 |w::ws,p=>by
  show xrj;unfold Zm;rw[YS w p.1,ZR ws p.2];rfl
end
mutual
def Qdr(f:qv):∀(w:W),je->th f w=sO w
 |.non,_=>rfl
 |.bl _,_=>rfl
 |BZ,_=>rfl
 |Be,_=>rfl
 |.ty _,_=>rfl
 |ŋ,p=>zB0
 |Ņ,p=>zB0
 |B6,p=>zB0
 |HG,p=>qC0
def Zu(f:qv):∀(ws:Ã),T6->ths f ws=sO ws
 |[],_=>rfl
 |w::ws,p=>by
  show xl p;unfold ths;rw[Qdr f w p.1,Zu f ws p.2];rfl
end
def Qs(b:T6)(e:m ws []=Ď w g)(hw:je):zS8=yo:=by
 let d:zJc:=by
  generalize 0=k;clear e
  induction ws with
  |nil=>rfl
  |cons a r c=>
   show jHh
 show(jL0,qoe);simp[QH]
def Qhd(b:T6)(e:zG6)(f:g[j]?=dc)(hu:de):zS8=sO (zgf,h):=by
 let d:zJc:=by
  generalize 0=k;clear e
  induction ws with
  |nil=>rfl
  |cons a r c=>
   show jHh
 show(jL0,jH9)
 let:th zo2 zt0=dc:=by
  show SS;simp only[Vf,Ybq,Ybr,LS,f];rw[Zu _ us hu];rfl
 rw[this];simp[QH]
def V5(b:T6)(s:ut)(q:SF)(e:jL1=sO (w,j::g))(hw:je)(i:∃us,j=zgf/\de):qs0=sO (w,ϝ j):=by
 let#[us,rfl,c]:=i
 let p:∀k,qJ0:=by
  clear e
  induction ws with
  |nil=>intro k;rfl
  |cons a r l=>
   intro k;show xl b;let:=l b.2 k;show zxj
 unfold box
 let d:qed:=by
  unfold Xv;rw[p];rfl
 show(jHi d f s q,qoe);simp[QH,FQ,ZM,thO,Zu _ us c]
def XY{os os':uO}(q:Xv 0 args=vV)(hd:ns.Nodup)(s:ZM jh2 ns=sO os)(e:m as os=sO (w,os'++g))(t:os'.length=ns.length)
  (c:∀o∈os',jL2) (hw:th jRi w=sO w'):qZb=sO (w',QH ns os' h):=by
 show jcd q;unfold Qc6;rw[if_pos hd,s];simp only[Nj,e];show Ŵ (show(frN w).Nodup/\∀j∈frN w,xq5 from#[EF,λj u=>by simp[frN]at u]);apply(th jRi w).bind _=_;rw[hw,Nj];apply(ZM gM zHh).bind (λos=>(ZM gM []).map λus=>(w',QH ns os h++us))=_
 let:ZM gM zHh=sO os':=by
  rw[<-t]
  let key:∀(k:Nat) (a:uO),(∀i o,a[i]?=sO o->(os'++g)[k+i]?=sO o)->(∀o∈a,jL2)->ZM gM (List.range' k a.length)=sO a:=by
   intro k a
   induction a generalizing k with
   |nil=>intro _ _;rfl
   |cons x a n=>
    intro f d;let#[us,hu,r]:=d x NF;rw[NP,YbD];unfold ZM;let l:=f 0 x rfl;rw[Nat.add_zero]at l;rw[l,Nj,n (k+1) (λi o b=>by let:=f (i+1) o g6;rw[show k+1+i=k+(i+1) by show jh0];show this) (π o p d),hu];apply((ths _ us).map MO.lst).bind _=_;rw[Zu _ us r];rfl
  rw[List.range_eq_range'];show key 0 os' (λi o b=>by rw[NO,NC (à b)];show b) c
 rw[this];simp[ZM]
@[simp]def QmC{os:uO}:QH [] os h=h:=ke
@[simp]def Qjv{os:uO}:QH (n::ns) (o::os) h=qx2:=by rw[QH]
def Uc(e:h[n]?=dc)(a:de):Qcq h n=dc:=by unfold Qcq;rw[e];simp[YA,a]
def ZS(f:W->W)(hi:zEd)(a:qJ4)(c:∀w∈items,qbj)(b:Rz) :
  xyh ű=qw7:=by
 show qq1;rw[WA (p:=i7) (f:=f) items [] o ck (λw hw _=>c w hw) g6,Iz.mpr ck];rfl
def GO{mt:MT}{me:ME}{h:MH}(f:W->W)(p:Th)(hi:zEd)(a:qJ4)(b:∀w∈items,ql7)(d:∀w∈items,jM7)(c:Rz) :
  zO4 ű=qL9 p:=by
 show qq1;rw[WA (p:=p) (f:=f) items [] o b d wZ];simp
def Q9(P:xC):∀(r:Ã) (n:Nat) (σ:MSt) (h:MH),Ba n ->
  jmj ->
  ∃a h',jHg:=by
 intro r
 induction r with
 |nil=>show λn σ h c _=>xd8
 | cons w r i=>
  show jJa o d
  let#[a,h',m,f]:=i (n+1) σ2 h2 g λj x l σ h c=>by
   show(jUa,mj)
  show jy2 f;rw[Zt,BC,o,Nj]
  rcases d with d|d<;>rw[d]<;>show m
def QdH(P:xC):∀(n f:Nat) (σ:MSt) (h:MH),n<f->Ba n ->
  (∀n σ h,Ba n->(ĺ t=BO h/\n=0)\/(zo3/\∃m σ2 h2,m<n/\(zfj=Pu\/zfj=zJ2)/\P m σ2 h2)) ->
  ∃a h',Qo t body f σ h=Ar a h'/\P 0 a h':=by
 intro n f
 induction f generalizing n with
 |zero=>show λ_ _ o _ _=>Ð
 | succ f j=>
  intro σ h o d c
  rcases c n σ h d with⟨e,l⟩|⟨e,m,σ2,h2,q,b,i⟩
  ·show Ϗ l #[σ,h,xd9,d]
  ·let#[a,h',p,g]:=j m σ2 h2 Í i c;refine#[a,h',?_,g];rw[Qo,e]
   rcases b with b|b<;>simp only[Nj,b]<;>show p
abbrev eqS(y:Str)(p:W×MH):xI:=@ob _ _ asB (wEq p.1 Pj p.2)
abbrev eqN(j:Int)(p:W×MH):xI:=@ob _ _ asB (wEq p.1 AX p.2)
@[simp 650]def QuW:Qg (ă a (mC Pj)) σ h=Ļ (eqS y) (a σ h):=by
 unfold Qg Qe mC eqS ob;cases ĺ a<;>rfl
@[simp 650]def QtU:Qg (ă a (mC AX)) σ h=Ļ (eqN j) (a σ h):=by
 unfold Qg Qe mC eqN ob;cases ĺ a<;>rfl
@[simp]def QsJ:eqS y zw6=sO (x==y,h):=by unfold eqS;rw[Qtr];rfl
@[simp]def QrJ:eqN j (Â i,h)=sO (i==j,h):=by unfold eqN;rw[Qsw];rfl
#print"-Mi"
namespace Mi
open L2
abbrev Qf0(ws:Ã)(h:MH):Þ:=match ws with
 |[ŋ]=>sO zw2
 |[a]=>kI zw2
 |_=>nO
abbrev Qwz(a:W)(ws:Ã)(h:MH):Þ:=match a,ws with
 |Ä n,[ux]=>match h[n]? with|some (Ë (x::b))=>sO (x,ϝ g8)|_=>nO
 |_,_=>nO
section
variable{X:Cx}
def Qam:Ĵ CI (Fs X.K Qf0):=by
 intro d s u H a x Q I r q;refine Yb d s u H a x Q I r ?_;let#[R,h,C,w,D,f,rw,e,k]:=q;unfold Qf0 at e;split at e
 ·show mD l a m j f;refine#[ad,a,rfl,ô m,Ó p n];show jm9
 ·show(ť B z y e,xQ l,jO a m j f l z);refine#[ad,a,rfl,ß m,Ó p n];show jm9
 ·cases e
#print"-"
section
open PySem.AutoSeq1
def QcT(l:Addr)(its:Ń)(n:Nat)(b:Addr)(a:Ń)(q:Nat)(c:Obj)(t:c.cls=jN)(hd:c.data=.seq a q)(r:¬(!its.isEmpty&&Builtin.List.listTooLong (its.size+a.size))=true)(i:fV)(f:its.size+a.size<=sizeLine+1) :
  Meets (Builtin.«list.extend» jE1) (λ_ R s=>qD=sO { cls:=Ī,dict:=nO,data:=qT0,slots:=#[] }/\gu=sO c /\
   R (.ok (.ret Value.none)) { s with heap:=jg9 l (Obj.mapSeq λx=>x++a),toks:=s.toks }):=
 .of_wp λj w A R s h=>by
  show Γ F E v p c;subst t hd;show kj z;let#[m,u,h]:=h;let f1:=idx_int;let f2:=OV;let D:=AutoSeq1.sub_list_list;let C:=AutoSeq1.sub_tuple_list;let B:=AutoSeq1.sub_list_tuple;let e:(its++a).size<=sizeLine+1:=by rw[Ybs];show f
  wp_walk using(LU m rfl (hz:=i) (_hz':=e)),Dq m,Dq u
  show qvj
#print"-"
section
variable{X:Cx}
def QcL:MtM X "list.extend" (λx vs H Q=>∃l b xs g,zd/\vs=[Ä b]/\zX9/\SQ b g/\xs.length+g.length<=sizeLine/\Q .non (Ĉ l (Ë (xs++g)))):=by
 intro j s J H x vs v L Q I t rv h;let#[l,b,xs,g,rfl,rfl,p,hB,B,q]:=h;show zOg t w;cases w;show pZ c D p;let#[a,i,#[y,F,E,A,hd],C]:=I.tuple hB;show(Ž o i,qii)
 let d:jT2:=by
  rw[QbC f,Fy];show N5
 refine IV F8 MQ YaZ xxc
  (QcT l c.toArray n b a.toArray A y E hd d (zWj (ī D)) qEf) #[e,F,?_]
 refine#[.non,_,zWi c a p xff,rfl,q];rw[NH];show B
abbrev Yk(a:W)(ws:Ã)(h:MH):Þ:=match a,ws with
 |Ä n,[Î b]=>match h[n]? with|qt c=>jY2|_=>nO
 |_,_=>nO
def QaD:Qb3 X "list.extend" Yk:=by
 intro b s j H x o v p Q I t rv q;refine QcL b s j H x o v p Q I t rv ?_;let#[R,h,a,J,w,L,d,u,c,e,k]:=q;unfold Yk at e;split at e
 ·show uA n E e
  ·show uA F z e
   ·show(jn7,zge D l B g d,jA0 D)
   ·cases e
  ·cases e
 ·cases e
@[simp]def Qn5:Yk Ε [Î a] h=match h[n]? with|Mx=>jW8|_=>nO:=Tm
#print"-"
#print"-Mi"
namespace My
open L2 Mi
noncomputable abbrev Ln:=Á
abbrev QR(l:Ln):W:=Î qh
abbrev Z4(xs:Á):W:=À kD
noncomputable abbrev Pt:=Str×Ġ
abbrev J2(p:Pt):W:=Î [.str p.1,.tup (p.2.map QR)]
abbrev Qw(p:È):W:=Î C0
structure Spt where
 way:î
 part:Nat
 k:Nat
 head:Bool
abbrev Yi(q:ϩ):W:=Î zt6
abbrev Qf(s:Spt):W:=Î qi2
def Xw:∀{ws:Ã},(∀w∈ws,ze0)->ze2:=by
 intro ws
 induction ws with
 |nil=>
  show sf
 |cons w ws a=>
  intro h;unfold Ka;rw[y0 w,a jP4];rfl
def Xt{n:Nat}:∀{ws:Ã},(∀w∈ws,dep w<=n)->Wj ws<=n:=by
 intro ws
 induction ws with
 |nil=>
  intro _;show NQ _
 |cons w ws a=>
  intro h;unfold Wj;show Nat.max_le.mpr #[y0 w,a jP4]
def Vi{f:a->W}{xs:ä a}(h:∀x,pln (f x)=true):Ka zYa=true:=Xw jy3
def QbH{f:a->W}{xs:ä a}(h:∀x,dep (f x)<=n):Wj zYa<=n:=Xt jy3
@[simp]def VG{xs:Á}:Ka kD=true:=Vi ſ
def Yj{xs:Á}:Wj kD<=1:=QbH λ_=>NA _
@[simp]def QpY{l:Ln}:pln zYb=true:=by unfold QR pln;show VG
@[simp]def Qgp{xs:Á}:pln jh5=true:=by unfold Z4 pln;show VG
@[simp]def Qj2{ls:Ġ}:Ka Au=true:=Vi λ_=>QpY
@[simp]def Qs0{p:Pt}:pln (J2 p)=true:=by simp[J2,pln,Ka]
@[simp]def Qfk{ps:È}:Ka (ps.map J2)=true:=Vi λ_=>Qs0
@[simp]def Qsp{ps:È}:pln (Qw ps)=true:=by unfold Qw pln;show Qfk
@[simp]def Qth{q:ϩ}:pln zk4=true:=Tm
def QrY{q:ϩ}:dep zk4<=2:=NA _
@[simp]def QkW{qs:î}:Ka zVe=true:=Vi λ_=>Qth
def Qk6{qs:î}:Wj zVe<=2:=QbH λ_=>QrY
@[simp]def GI{s:Spt}:pln Μ=true:=by simp[Qf,pln,Ka]
def QpP{s:Spt}:dep Μ<=4:=by simp[Qf,dep,Wj];let:=Qk6 (qs:=s.way);show this
@[simp]def Qj4{a:Æ}:Ka zYd=true:=Vi λ_=>GI
@[simp]def QwT{l:Ln}:pur zYb=true:=YS _ QpY
@[simp]def Qq9{xs:Á}:pur jh5=true:=YS _ Qgp
@[simp]def Qv3{ps:È}:pur (Qw ps)=true:=YS _ Qsp
@[simp]def Qvq{s:Spt}:pur Μ=true:=YS _ GI
@[simp]def Qq3{xs:Á}:Zm kD=true:=ZR _ VG
@[simp]def Qtb{ls:Ġ}:Zm Au=true:=ZR _ Qj2
@[simp]def QtB{ls:È}:Zm (ls.map J2)=true:=ZR _ Qfk
@[simp]def Qk2{a:Æ}:Zm zYd=true:=ZR _ Qj4
@[simp]def Qww{i:Int}:pur Į=true:=Tm
@[simp]def QwF{x:Str}:pur Φ=true:=Tm
@[simp]def Qxd{b:Bool}:pur jp=true:=Tm
@[simp]def QwD:pur .non=true:=Tm
@[simp]def Qvy{ws:Ã}:pur BP=Zm ws:=zO5
@[simp]def QsP{ws:Ã}:pur BB=Zm ws:=zO5
@[simp]def QvX{ws:Ã}:pur jb6=Zm ws:=zO5
@[simp]def QuM:Zm []=true:=Tm
@[simp]def QlY{ws:Ã}:Zm zTa=(pur w&&Zm ws):=by rw[Zm]
@[simp]def QuB{ws us:Ã}:Zm jde=(Zm ws&&Zm us):=by
 induction ws with
 |nil=>simp
 |cons w ws a=>simp[a,Bool.and_assoc]
@[simp]def QpU{ns:ψ}:Zm zI=true:=by
 induction ns with
 |nil=>rfl
 |cons n ns a=>simp[a]
@[simp]def Qub{ws:Ã}:YA BB=Zm ws:=Tm
def JC{n:Nat}(h:n<=1000000):zXj:=Nh h Ñ
def Qb7{n:Nat}(h:n<=1000000):n<sizeLine:=uc h
@[simp]def QuH:1<=sizeLine:=õ
@[simp]def Qt5:2<=sizeLine:=õ
@[simp]def Qu1:3<=sizeLine:=õ
@[simp]def Qul:4<=sizeLine:=õ
@[simp]def Qu7:5<=sizeLine:=õ
@[simp]def Quv:6<=sizeLine:=õ
@[simp]def Qup:8<=sizeLine:=õ
structure Fd where
 a:Int
 b:Int
 hb:qLa
abbrev Q0(f:Fd):MO:=À qQ3
def QeL{xs:ä b}{i:Int}{P:b->Prop}{f:b->W}(h0:0<=i)(h1:zXi)(c:∀x∈xs,P x):∃x,x∈xs/\P x/\atI zYa i=sO (f x):=by
 show jX0
 let a:n<xs.length:=Ð
 show#[xs[n],Dw a,c _ (Dw a),xs1 a]
def QgZ{f g:Fd}(e:Q0 f=Q0 g):f=g:=by
 show(ϋ a b d f,ϋ i h c g);simp[Q0]at e;show yW e;rfl
abbrev QqO(h:MH)(n:Nat):Prop:=∃f,CB
open Classical in
abbrev Qeo(h:MH)(n:Nat):Fd:=if p:jk8 then p.choose else#[0,0,õ]
def Qbp{n:Nat}(e:CB):Qeo h n=f:=by
 let p:jk8:=ę f e
 unfold Qeo;rw[dif_pos p];show(QgZ (NZ (e.symm.trans p.choose_spec))).symm
@[simp]def QuD{f:Fd}:QqO xyi 0:=sQ f
@[simp]def QrD{f:Fd}:Qeo xyi 0=f:=Qbp rfl
def Qb6{b:Ã}(d:jbc)(py:Ka b=true)(f:je3)(e:Wj b<=40):wIn neg a g8 h=sO (ñ (if neg=true then !inW a b else inW a b),h):=by
 apply((lsW h g8).bind λb=>(drf h 40 a).bind λx=>(ZM fv b).map λc=>(W.bl qc5,h))=_;show jh6;rw[zU0,VM h b 40 py e];rfl
@[simp]def Qwf{i:Int}:wIn false Į (Ë xda) h=sO (ñ (AK xs2),h):=by
 rw[Qb6 (by simp[pln]) (by simp[pln,Ka]) jVb (by simp[dep,Wj])]
 let:inW Į xda=decide xs2:=by
  simp only[inW,De,List.any_nil,eqW,YaT];rw[Ew];simp;lia
 simp[this]
@[simp]def QtA{xs:Á}:ZL [Z4 xs] h=sO (.int xs.length,h):=jce Z4
@[simp]def QuA{xs:Á}:CM jh5=ũ fI (atI kD i):=jce Z4
@[simp]def Qw5{xs:ä a}:atI xs 2=xs[2]?:=QJ (n:=2)
@[simp]def Qxk{xs:ä a}:atI xs 3=xs[3]?:=QJ (n:=3)
def Ke{n j:Nat}(h:(QA a n)[j]?=sO w):j<n/\w=Â (a+j):=by
 let b:=à h;simp[QA]at b;show Hz b;unfold QA at h;rw[Np,EZ b]at h;cases h;rfl
def Qkf{a b:Char}(h:a.toNat=b.toNat):a=b:=by
 let:a.val=b.val:=by
  refine' UInt32.toNat_inj.mp;show h
 show Char.ext this
def YG:∀{a b:List Char},a.map Char.toNat=b.map Char.toNat->a=b
 |[],[],_=>rfl
 |[],_::_,h=>AF h
 |_::_,[],h=>AF h
 |x::a,y::b,h=>by
  simp only[Nw,LV]at h;rw[Qkf h.1,YG h.2]
@[simp]def Qs2{a b:String}:(Str.ofString a=Str.ofString b)↔a=b:=by
 constructor
 ·intro h;rw[Yap,Yap]at h;let c:=YG (List.toArray_inj (Str.mk.inj h));show String.toList_inj.mp c
 ·intro h;rw[h]
#print"-My"
namespace L2
abbrev RawD(h:Heap)(d:Addr)(es:kq)(ep:Nat):Prop:=∃o,zu7/\o.ExactDict/\bK
def RawD.typeIs{s:Shared}(m:bu):s.TypeIs ML "dict":=by let#[o,a,b,_]:=m;show#[o,a,b.1]
def RawD.lt(m:eB):d<h.objs.size:=by let#[_,a,_]:=m;show NL a
def RawD.at(m:eB)(k:∀o,zE d o):RawD h' d es ep:=by show BA o a r m #[o,k o a,r]
section
variable{prog:Program}{w:World}{A:Around}{E:Ô}{s:Shared}{it d:Addr}{es:kq}{i ep:Nat}
def Qbo(hd:fu)(m:bu)
  (q:Q AZ { s with heap:=s.heap.push { cls:=.type "dict_keyiterator",data:=.fields #[Ä d,Ry,.int es.size 0,zUg,] } }):ò (qb ML):=by
 let a:=m.typeIs;show Γ o c e b m;refine OH a Yaq (Eu Yaq a PySem.F.entry_dict_iter ?_ (PySem.F.args_dict_iter_1 _));show Ê (Na (Fe a ?_));refine(show Ň (pure (cR d)) from Nn ?_);refine(show Ň (Builtin.Dict.showsAll d>>=_) from ?_);unfold Builtin.Dict.showsAll;rw[if_neg (by rw[hd];show N5)];show(Ê (Nn (Na (FY c b (Na (Ff c b ?_))))),ĵ (ED (AU #[_,rfl,"dict_keyiterator",_,oM,Dd.lookup,?_])));simpa[rawInt]using q
def QbE(hit:s.heap.IsKeyIter it d i es.size ep)(m:bu)(f:je4)
  (j:∀h',h'.IsKeyIter it d (i+1) es.size ep->zM9 h'->xL (sO je5) h'):ò RK:=by
 show(za3 e h,jt8 b g c e)
 show jtc b c;simp only[show¬(jd<0)from Ð,if_false,E9,NT f];show uV
 first|show Ê (DS hit.typeIs qx4)|show Ê (FC hit.typeIs qx4)
 refine(wu (qs1 PZ>>=_) (qQ4 e))
 let a:(s.heap.update it (Obj.mapFields (·.setIfInBounds 1 mT))).IsKeyIter it d (i+1) es.size ep:=
  #[_,qAb e,(Ybt ..).trans h,qDb]
 show Ê (N9 (Na (LA (s:={ s with heap:=s.heap.update it (Obj.mapFields (·.setIfInBounds 1 mT)) }) a.typeIs ?_)));refine(show ż (pure je5) from ?_);show ύ (AU #[_,rfl,Nn (zb9 j a)])
def QfO(g:Ξ)(hit:s.heap.IsKeyIter it d es.size es.size ep)(m:bu)
  (j:∀h',qFa->zH2):ò RK:=by
 show(za3 f n,jt8 c h e f)
 show jtc c e;simp only[show¬(xlc<0)from Ð,if_false,E9,Lm (NA es.size)];show uV
 first|show Ê (DS hit.typeIs υ)|show Ê (FC hit.typeIs υ)
 refine(wu (setField PZ 0 .none>>=_) (qQ4 f));refine(show ż (qh4>>=_) from Na ?_);show Ê zA7;refine Na (m:=qT7) (Yar (a:=Value.none) jXg ?_);refine ED ?_ qe8;show Ê qZd;rw[show xR from g];show(Ê qH5,HX (Ij (b:=true) (T:="StopIteration") oM isSubtype_stop ?_),ύ (j _ qt1))
def Qee(p:Ξ)(I d:Addr)(j:d≠I)(es:kq)(ep:Nat) :
  Walks prog w A I [I,d] [I] es.size qr6 (λi h=>h.IsKeyIter I d i es.size ep/\eB) where
 sub:=qAc
 frame:=λ_ _ _ st hk=>#[st.1.at (zK1 I),st.2.at (zK1 d)]
 item:=λi s Q E n st g=>QbE st.1 st.2 n λm f c=>
  g _ m s.toks #[es[i],NT n,rfl] #[f,st.2.at λo e=>ug c d j e] λb o a e=>c.extBut b o jGa e
 done:=λs Q E st g=>QfO p st.1 st.2 λm l=>g m s.toks λb o a e=>jD l jGa
 self:=λ_ _ _ _ st g=>YaM st.1 g
def QaA(lo:fu):PySem.W.KdlSrc prog w "dict" d d es.size qr6 (λh=>eB) where
 type:=λ_ m=>m.typeIs
 there:=λ_ m=>#[m.lt,m.lt]
 keep:=λ_ _ m k=>m.at λo e=>k d jV o e
 notList:=õ
 notTuple:=õ
 hint:=λ_ _ _ _ m q=>PySem.W.kdl_hint_dict m.typeIs q
 iter:=λ_ _ a m=>#[_,_,(λ_ _ q=>Qbo lo m q),Qee a _ d (NK m.lt) es ep,#[Tv,m.at λo e=>Ś e]]
#print"-"
#print"-L2"
namespace Mi
open L2
abbrev TrH(K:Nk)(H:Hp):Nat->Tr->V->Prop
 |0,_,_=>False
 |_+1,.i k,v=>v=Â k\/∃b:Bool,zj4/\qM7
 |_+1,.s x,v=>Pp
 |n+1,.t ks,v=>∃a xs,ϐ/\il H/\Paired (TrH K H n) ks xs
def Qle{F:j->i->Prop}{G:i->h->Prop}{M:j->h->Prop}(f:∀a b c,F a b->G b c->M a c){g:ä j}{e:ä i}{d:ä h}(p:uX F g e)(q:uX G e d):uX M g d:=by
 induction p generalizing d with cases q
 |nil=>show .nil
 |cons a s l=>show ė (f _ _ _ a jk7) (l jk7)
section
variable{X:Cx}{pins:Ý}{σ:L2.St}{H:Hp}{s:Shared}
def QjP(I:á):∀{n:Nat} (k:Tr) (v:V) (u:Value),TrH X.K H n k v->ó v->dh k u
 |0,_,_,_,x,_=>x.elim
 |n+1,.i k,v,u,x,r=>by
  rcases x with rfl|⟨b,rfl,hk⟩
  ·show ß r
  ·show ÿ #[b,r,hk]
 |n+1,.s y,v,u,x,r=>by
  show Ω (show v=Ü y from x) r
 |n+1,.t ks,v,u,x,r=>by
  let#[a,xs,rfl,q,p]:=x;show yd c d e q;show ï (zp8 r) #[a,c.toArray,rfl,e,by simpa using Qle (λk v u g f=>QjP I k v u g f) p d]
#print"-"
section
variable{K:Nk}{R:Rn}{h:MH}{H:Hp}
def Qtp(p:Đ):∀(n:Nat) (w:W) (v:V) (k:Tr),ù w->xyb->TrH K H n k v:=by
 intro n
 induction n with
 |zero=>
  intro _ _ _ _ e;show pq
 | succ n z=>
  intro w v k r e;cases w with
  |int i=>show s9;cases e;show .inl r.int_eq
  |bl b=>show s9;cases e;show ÿ #[b,r.bl_eq,rfl]
  |str x=>show s9;cases e;show r.str_eq
  | tup l=>
   show s9;let#[ks,f,g]:=ό e;subst g;show zge a j q d p;refine#[a,j,rfl,q,?_];clear e r q
   induction l generalizing ks j with
   |nil=>
    show A0 d;rw[YaV]at f;cases(zNc f);show .nil
   |cons x l u=>
    rw[Dh]at f;show(ē m B g f,ē c A C g);cases(show sO (m::c)=sO ks from C);show(Ao d y o t s,ė (z x y m t B) (u c A o s))
  |_=>show pq
def Qd4(a:Đ)(r:ù w)(e:zdj):TrH K H 8 k v:=by
 cases w with
 |tup b=>show Qtp a 8 _ v k r e
 |_=>cases e
def QlH(b:Đ)(r:ù w)(e:zdj):∃a,ϐ:=by
 cases w with
 |tup d=>let#[a,c,rfl,_]:=qc b r;show p8 a
 |_=>cases e
#print"-"
abbrev Xi(a:ϙ)(k:Tr):Û:=(a.find? (ju p (cU=sO k))).map (·.2)
abbrev US(a:ϙ)(k:Tr)(kw v:W):ϙ:=if xge=true then a.map (λp=>if cU=sO k then(p.1,v)else p)else a++[(kw,v)]
abbrev Qgd(kx:Ő)(k:Tr):Δ V:=(kx.find? (u0 p k)).map (·.2.2)
abbrev QaB(kx:Ő)(k:Tr)(b:Addr)(v:V):Ő:=if zOi=true then kx.map (λp=>if p.1=k then(p.1,p.2.1,v)else p)else kx++[(k,b,v)]
noncomputable abbrev DctR(K:Nk)(R:Rn):ϙ->Ő->Prop:=Paired λp q=>xGi
noncomputable abbrev QcC:Ő->yI->Prop:=Paired λp q=>qpg
section
variable{K:Nk}{R:Rn}
def YM{a:ϙ}{kx:Ő}(d:eT):(Xi a k=nO/\Qgd kx k=nO)\/∃w v,Xi a k=sO w/\Qgd kx k=sO v/\ù w:=by
 induction d with
 |nil=>show ß ζ
 |@cons p q f c h t b=>
  show AN e q
  ·show ÿ #[p.2,q.2.2,by simp[Xi,NV,h.2.1,e],by simp[Qgd,NV,e],h.2.2]
  ·simpa[Xi,Qgd,NV,e,h.2.1]using b
def Ug(d:eT):xge=zOi:=by
 rcases YM (k:=k) d with z|⟨w,v,c,b,_⟩
 show xgb
 ·rw[c,b];rfl
def Ux(d:eT)(rk:Rw K R kw ym)(hk:xz0)(r:ù w):DctR K R (US a k kw w) qZe:=by
 unfold US QaB;rw[Ug d];split
 ·rename_i f;clear f rk hk
  induction d with
  |nil=>show .nil
  |@cons p q i g h t c=>
   show rz c
   show AN e q
   ·rw[Ò e,if_pos (by rw[h.2.1,e])];show xdb
   ·rw[Õ e,if_neg (by rw[h.2.1];show λz=>e (NZ z))];show h
 ·show Yam d #[rk,hk,r]
def WS{kx:Ő}{xs:yI}(r:ic):RelO (Qgd kx k) ((atKey xs k).map (·.2)):=by
 induction r with
 |nil=>show zh3
 |@cons p q d c h t b=>
  show AN e p
  ·let a:q.1=k:=h.1.symm.trans e;simpa[Qgd,atKey,NV,e,a,RelO]using h.2.2
  ·let a:¬q.1=k:=ϴ e xdc;simpa[Qgd,atKey,NV,e,a]using b
def UH(d:ic):zOi=(atKey xs k).isSome:=by
 let:=(WS (k:=k) d).isSome_eq;rwa[Fo]at this
def Ul(d:ic)(r:ó v):QcC qZe (storedH xs k b u):=by
 unfold QaB storedH;rw[UH d];split
 ·rename_i c;clear c
  induction d with
  |nil=>show .nil
  |@cons p q g f h t a=>
   show rz a;unfold Ybx
   show AN e p
   ·rw[Ò e,if_pos (h.1.symm.trans e)];show xdb
   ·rw[Õ e,if_neg (λz=>e xdc)];show h
 ·show Yam d (jlg r)
def Yu:(QaB kx k b v).length<=kx.length+1:=by
 unfold QaB;show jva
 ·rw[NH];simp
#print"-"
section
variable{X:Cx}{pins:Ý}{σ:L2.St}{H:Hp}{s:Shared}{R:Rn}{h:MH}
def Kr(I:á)(d:Ϧ)(g:qEc) :
  ∃kx xs,H ŕ=dz/\xdd/\qQ5/\jCe/\ic/\s.heap.DictOfH zPf ŕ xs:=by
 let#[kx,c,l]:=Hh d g;let#[z,y,xs,r,o,C,D,B,A,v,j,i,_]:=I.hok _ _ c;refine#[kx,xs,c,l,z,y,r,o,C,D,B,A,v,j,?_,i];clear j i z c g
 induction r generalizing a with
 |nil=>intro x b;show nomatch b
 | @cons p q J F f t u=>
  cases l with
  |cons m E=>
   intro x b
   rcases HN b with e|b
   ·subst e;let:=QjP I _ _ _ (Qd4 d m.1 m.2.1) (show RelV (.ref p.2.1) (Value.ref p.2.1)from rfl);rw[f.1,f.2.1]at this;show this
   ·show u E x b
abbrev DctE(prog:Program)(w:World)(h:Heap)(d:Addr)(xs:yI):Prop:=
 ∃o a b,zu7/\o.ExactDict/\o.data=.dict a b/\a.toList=zui/\(∀x∈xs,xo h x)/\(xs.map (·.1)).Nodup/\b=a.size
def DctE.of{h:Heap}:DctE prog w h d xs->h.DictOfH zD5 d xs:=λz=>by
 let#[o,i,j,g,f,e,c,b,a,_]:=z;show#[o,i,j,g,f,e,c,b,a]
def QaF(I:á)(i:Ϧ)(j:qEc) :
  ∃kx xs,H ŕ=dz/\xdd/\qQ5/\jCe/\ic/\DctE X.prog X.w s.heap ŕ xs:=by
 let#[kx,xs,f,C,B,A,z,o,m,q,e,y,d,x,v,u]:=Kr I i j;let#[_,_,g,r,D,l,p,c,J,b,F,E,t]:=I.hok _ _ f;show ð e c;rw[d]at b;show ï b #[kx,xs,f,C,B,A,z,o,m,q,e,y,d,x,v,u,t]
def KZ(I:á)(a:Ϧ)(r:ń w v)(c:ó v)(e:zdj):∃b,Pn/\u=Ä b/\(Qi X.prog X.w).is s.heap k b:=by
 let#[b,rfl]:=QlH a r e;show ï (show u=Bv b from c) #[b,rfl,rfl,QjP I _ _ _ (Qd4 a r e) (show RelV ym (cR b)from rfl)]
def Y2(I:á)(e:H a=dz)(z:c.length<=sizeLine)(lo:fq)(r:QcC c b)
  (f:TX a) (dd:DctE X.prog X.w h' a b):TM (Ĉ a (.dT c)):=by
 let#[o,n,p,d,m,l,j,_,i,g]:=dd;show G5 I znb f (ę o d) #[z,lo,b,r,o,n,p,d,m,l,j,i,g]
#print"-"
set_option backward.eqns.nonrecursive false in
abbrev Kb(h:MH):W->Option (HP (W×W))
 |Ä n=>match h[n]? with|jqd=>sO a|_=>nO
 |_=>nO
def JS(e:Kb h a=sO b):∃n,a=Ä n/\h[n]?=sO (Ř b):=by
 cases a with
 |ref n=>
  simp only[Kb]at e;show jy1
  ·cases e
 |_=>cases e
abbrev X4:ME:=zlj (ģ,zPc)
abbrev Wa(neg:Bool)(b a:W)(h:MH):Þ:=(Kb h a).bind λc=>(nrm b).map λk=>(ñ (if neg then ! xld else xld),h)
abbrev J3(a b v:W)(h:MH):Option MH:=match a with
 |Ä n=>match h[n]? with
  |some (Ř c)=>(nrm b).bind λk=>if qW4 then sO (Hq (Ř xgf))else nO
  |_=>nO
 |_=>nO
abbrev V3(mo mi mv:ME):SM:=λa h=>(mv a h).bind λv=>(mo a v.2).bind λo=>(mi a o.2).bind λi=>(J3 o.1 i.1 v.1 i.2).map λb=>.nx a b
abbrev QmW(a:W)(ws:Ã)(h:MH):Þ:=match ws with
 |[b,v]=>(Kb h a).bind λc=>(nrm b).bind λk=>match Xi c k with
  |è x=>Ď x h
  |none=>(J3 a b v h).map λd=>(v,d)
 |_=>nO
abbrev Qd7(a:W)(ws:Ã)(h:MH):Þ:=match ws with
 |[b,v]=>(Kb h a).bind λc=>(nrm b).map λk=>((Xi c k).getD v,h)
 |_=>nO
abbrev Ya(ws:Ã)(h:MH):Þ:=match ws with
 |[a]=>(Kb h a).map λb=>(.lst (b.map (·.1)),h)
 |_=>nO
section
variable{prog:Program}{w:World}{A:Around}{E:Ô}{s:Shared}{d a:Addr}{k:Tr}{xs:yI}
def Qkq{dflt:Value}(hu:qT8)(b:gA)(t:Ri)(hsz:Bx)
  (h1:∀p,ze3=sO p->Q p.2 { s with toks:=Cm })
  (h2:ze3=nO->∀h',qfh->TX d->Q dflt { s with heap:=h',toks:=Cm }):ò (dictSetDefault d ħ dflt):=by
 let#[o,B,v,f,u,hd,l,i,m,r]:=t;refine N9 (Na ((Qi prog w).pyHash hu b (jud l i m)))
 ·show(qf5 h g,HX (Ds (Na (YaN (hz:=qwa l) (s:={ s with toks:=Cm }) f hd (zt1 (h2 en _ (jy4 v u r) fZ))))))
  ·rw[Lp en];simp[l,entryOfKey]
  ·show jng i
  ·rw[Lp en,NU,Eh];show#[m,Ç,qo2 n g]
 ·intro j p q;show Ê (FY (s:={ s with toks:=Cm }) f hd ?_);rw[entry_at l j,q];show Na (Ds (Nn (h1 p (atKey_of_get m q))))
def YQ(hu:qT8)(b:gA)(D:Ri)(hsz:Bx)
  (h:jue):ò (dictSet d ħ v):=by
 let#[o,F,C,f,B,hd,r,g,n,u]:=D;refine N9 (Na ((Qi prog w).pyHash hu b ?_));refine N9 (jud r g n)
 ·show(qf5 m i,HX (Ds (YaN (hz:=qwa r) (s:={ s with toks:=Cm }) f hd (zb9 h (jy4 C B u)))))
  ·rw[Lp en];simp[r,entryOfKey]
  ·show jng g
  ·rw[Lp en,NU,Eh];show#[n,Ç,qo2 q i]
 ·intro j p z;let t:=atKey_of_get n z;show ĵ (Ds (Na (wpAny_updateDict (s:={ s with toks:=Cm }) f hd (wpAny_point (zb9 h #[_,_,C,Ez _ f (Oa (YbE hd _)),B.mapDict _,YbE hd _,?_,?_,?_,Sr u])))))
  ·rw[zU1];let:=modify_map_putAt qa3 (λe:DictEntry=>{ e with val:=v }) k v ck n z;rw[<-r]at this;let#[l]:=F;show Av
  ·rw[zU1];show Mf c q;simp only[Ybx];split<;>show zzj (g y q)
  ·rw[zU1,keys_map_putAt];show n
def Qe0(hu:qJ5)(b:gA)(c:Ri)(hsz:Bx)
  (h:jue):ò (setItem ML ħ v):=by
 let ty:=c.of.typeIs;refine N9 (Na (OF ty Ñ (Na (ES (name:=Str.ofString "__setitem__") ty slot_dict_setitem (Eu slot_dict_setitem ty entry_dict_setitem ?_ (args_dict_setitem _ _ _))))));show qf (wu (Builtin.Dict.notOrdered "__setitem__" #[[Ä d,Ä a,v],[]]>>=_) (Fe ty ?_)) (wu (dictSet d ħ v>>=_) (YQ hu b c hsz λh' m e=>Nn #[.none,rfl,Nn (h h' m e)]))
#print"-"
section
variable{X:Cx}{o i e a b:Expr}{mo mi mv ma mb:ME}{pos pos':Pos}
def Qlz:þ bT X4:=Q3 Qik λn H Q q=>by
 let#[R,f,h,w,s,j,st,e,k]:=q;cases e;intro p l;let#[m,g,d,c]:=j.new (mo:=jW) (o:=zkg) l (Ľ t r zO3)
 show ϱ m g d c
def Qca(hu:Ł):(Qi X.prog X.w).room X.A.in1:=by apply Rg+8<cLine;lia
def Qml(hu:Ł):ë tT (q9 (Wa false)):=by
 intro g s F H x y v u Q I m l j;let#[R,h,a,b,w,P,d,p,f,e,k]:=j;show(jn4,du r D);let#[L,J,N,E,z,lo,rr,dd]:=Kr I d r;show(qDc,zr5 l);refine wpAny_in_heap zgg hk lo dd ?_;show jUg
def Qb9(hu:Ł):ë zLb (q9 xX):=by
 intro g s F H x y v u Q I m l j;let#[R,h,a,b,w,P,d,p,f,e,k]:=j;show(jn4,du r D);let#[L,J,N,E,z,lo,rr,dd]:=Kr I d r;show(qDc,zr5 l);refine wpAny_notIn_heap zgg hk lo dd ?_;show jUg
def UQ{a b v:W}(e:J3 a b v h=sO h'):∃n c k,a=Ä n/\br/\nrm b=sO k/\qW4/\h'=ϝ (Ř xgf):=by
 show sn J3 e
 ·show iu n e
  ·rename_i c f;show ē k j d e;split at d
   ·rename_i g;show ï d #[n,c,k,rfl,f,j,g,rfl]
   ·cases d
  ·cases e
 ·cases e
abbrev Qtv(K:Nk)(mo mi mv:ME):TS:=λD c H=>tI K mv c H λv H1=>tI K mo c H1 λx H2=>tI K mi c H2 λy j=>
 ∃R h a b w d,Rh K R h j/\gk/\ŵ R b y/\ù w/\J3 a b w h=sO d/\∀f g,AO f->Rh K f d g->D.nx c g
def Qvr{H:Hp}{R:Rn}{a b w:W}{x y v:V}(hu:Ł)(I:Ĩ f)(j:Ϧ)(B:ń a x)(u:ń b y)(rw:ń w v)
  (M:Ť x r) (L:Ť y F) (rv:Ť v J) (e:J3 a b w h=sO h') (q:∀t E,ţ f σ E t->Rh X.K R h' E->Q () t):ĩ (setItem r F J) Q:=by
 let#[n,N,k,rfl,Y,hk,hl,rfl]:=UQ e;let#[l,Z,S,D,z,lo,rr,dd]:=QaF I j Y;let#[c,rfl,rfl,g]:=KZ I j u L hk;show(oi B m,Ck r M);let C:=N7 D;let d:=N7 rr;refine Qe0 zgg g dd (Nh (ī d) z) (Ú h' p U);let P:(QaB l k c v).length<=sizeLine:=by let:=Yu (kx:=l) (k:=k) (b:=c) (v:=v);lia
 show q _ _ (Y2 I S P lo (Ul rr rv) U p) (j.put m #[_,rfl,Ux D u hk rw])
def Qs8(hu:Ł)(ho:SE)(hi:zg0)(he:zg1)(hs:jTb):mx xde:=by
 refine J0 (t:=Qtv X.K mo mi mv) (λc s g H D I h=>?_) (ś D g H q)
 ·refine Yan (ň (he c s g H _ I h) r Y p) hs;let#[v,H1,I1,rv,q1]:=p;show(ϸ (ho c Y g H1 _ I1 q1) (Ú u U p),Tz x C p);refine thn (hi c U g H2 _ I2 q2) λiv s3 z=>?_;let#[y,H3,I3,B,R,h,a,b,w,S,L,ra,rb,rw,e,k]:=z;show Qvr hu I3 L ra rb rw C B rv e λs4 n I4 f=>#[g,n,I4,k R n Χ f]
 ·let#[R,d,h,r,L,s,e,k]:=q;show(į v Q e1 e2 e,zph P e3 e4 e2 N e5 e6,yl S e7 e8 e6);show qf #[R,d,h,v,Q,L,s,e1,qg m J C #[R1,d,Q,ob,P,J,HK m,e3,λR2 H2 y l F B=>#[R2,d,P,ix,N,F,jJ7,e5,AS R3 H3 z j E Z]]] #[R3,N,ob,ix,v,S,E,CW j B,Z,CW (Ę l j) C,e7,λR4 n M f=>k R4 n g jEe f (s.mono jEe)]
def QhW(hu:Ł)(d:SE)(hi:zg0)(f:zg1)(c:Sw:=by rfl):mx xde:=Qs8 hu d hi f (VQ c)
#print"-"
def QeV{w:World}(d a:Addr)(lo:fu)(dflt:Value) :
  MeetsIn prog w (Builtin.«dict.setdefault» #[[Ä d,Ä a,dflt],[]]) (λA R s=>qJ5/\∃k xs,gA/\Ri/\Bx /\
   (∀p,ze3=sO p->R (.ok (.ret p.2)) { s with toks:=Cm }) /\
   (ze3=nO->∀h',qfh->TX d->R qy0 { s with heap:=h',toks:=Cm })):=
 .of_wp λA R s g=>by
  let#[hu,k,xs,b,f,h,m,l]:=g;show Ê (Na (Fe f.of.typeIs ?_));refine(show Ň (pure (d,Bv a,sO dflt)) from Nn ?_);refine(show Ň (if(mB d)=true then _ else(dictSetDefault d ħ dflt>>=_)) from ?_);rw[if_neg (by rw[lo];show N5)];show Na (Qkq hu b f h (λp i=>Nn #[p.2,rfl,m p i]) λj h' e c=>Nn #[dflt,rfl,l j h' e c])
section
variable{X:Cx}
def QkP(hu:Ł):Qb3 X "dict.setdefault" QmW:=by
 intro aa s σ H x P v us Q I rx rv q;let#[R,h,a,ws,w,h',o,ra,B,e,k]:=q;unfold QmW at e;split at e
 ·rename_i b dv;let#[af,e1,e2]:=ĸ e;show(ē g F r e2,zEg,vZ y J Z Y B);let#[uy,uz,rfl,ry,U]:=Y6 rv;let#[C,P,hx,t,zl,lo,rr,dd]:=QaF I o hn;let#[c,rfl,rfl,l]:=KZ I o Z ry F;let i:=ra;show(oi i E,qy1);let ae:=N7 t;let f:=N7 rr;let d:=jlh g;refine LQ DZ dd.of.typeIs L6 xs4 (QeV _ c lo uz) #[Qca hu,g,P,l,dd,by show Nh (ī f) zl,zdc,λD ah L hs=>?_]
  ·rw[hp]at d
   show jD7
   ·rw[z.2]at d;show C5 d
   ·show ð N r;rw[u]at d;show#[S,H,ų,d,ŀ o M]
  ·rw[D]at d
   show jD7
   ·rw[z.1]at r;show ť h3 e5 e6 r;let#[n',ab,k',en,j,m,hl,rfl]:=UQ e5;cases en;rw[hn]at j;cases j;show(ð F m,qj4 C g J)
    show#[J,_,Y2 I hx hz lo (Ul rr U) hs L,U,ϱ R Χ (o.put E #[_,rfl,Ux t Z F Y]) Y]
   ·rw[u]at d;show C5 d
 ·cases e
def Qis(hu:Ł):Qb3 X "dict.get" Qd7:=by
 intro r s σ H x o v us Q I L rv q;let#[R,h,a,ws,w,h',f,p,i,e,k]:=q;unfold Qd7 at e;split at e
 ·rename_i b dv;show(HZ P e1 e2 j Z Y,du S e1,vZ y z N M i);let#[uy,E,rfl,J,F]:=Y6 rv;let#[kx,o,hx,dr,zl,lo,rr,dd]:=Kr I f S;show(zh4 d I f N J Z,oi p U,Ck v L);let g:=jlh j;refine LQ Fb dd.typeIs Ll zY1 (meetsH_dict_get_default zPf ŕ c lo E) #[Qca hu,j,o,d,dd,?_]
  rcases YM (k:=j) dr with z|⟨w',D,C,B,t⟩
  ·rw[z.2]at g;rw[RelO.none_of g];rw[z.1]at k;show#[_,H,ų,F,ŀ f M]
  ·rw[B]at g;let#[u,m,l]:=RelO.some_of g;rw[m];rw[C]at k;show#[D,H,ų,l,ŀ f t]
 ·cases e
def WX{K:Nk}:∀{a:ϙ} {kx:Ő},eT->Rws K R (a.map (·.1)) jMd
 |_,_,.nil=>Rws.nil
 |_,_,ė h t=>Rws.cons h.1 (WX t)
def Ud:∀{kx:Ő} {xs:yI},ic->Vals jMd (xs.map fm)
 |_,_,.nil=>.nil
 |_,_,ė h t=>ė (show _=Value.ref _ from by rw[h.2.1]) (Ud t)
def Qaq(hc:ı):Ĵ CI (Fs X.K Ya):=by
 intro E s σ H f us Q I r q;let#[R,h,ws,w,J,C,m,e,k]:=q;unfold Ya at e;split at e
 ·show(jp0 Y D,PN N r,jB2 U B C D,Ck u N);let#[o,A,L,h1,h2,h3,F,_,h5]:=dd;let d:A.size=f.length:=LX F;let x:=N7 rr;refine OW (zUh A L) fz #[o,h1,h2,h3] (Nh (Nh zh7 (ī x)) B) λJ tk b c' Z eL c=>?_
  let hv:jJb U:=by
   let:jGc:=by
    show jqe z F
    ·show joe S P
   rw[this];show Ud rr
  let hp:=PH;let#[R3,M,v,t]:=C.lstI (p:=s.heap.objs.size) hp (WX dr);refine#[δ s,_,I.laid (t':=tk) Z ĕ (jBe J B),rfl,ϱ R3 M v t]
 ·cases e
#print"-"
#print"-Mi"
namespace L2
section
variable{X:Cx}{pins:Ý}{σ:St}{H:Hp}{s:Shared}{h':Heap}{t':Nat}{ch:ς}
def Inv.turnedL(I:á)(k:jo6)(f:∀b∈ch,zK6)(d:∀b u,zh8->i b=sO u)(x:∀b o,Ϲ->ϰ->i b=nO)
  (new:∀b u,ϰ->i b=sO u->zci i b u):TM i:=by
 let g:∀b u,zh8->qx:=λb u e z=>by rw[(f b z).1]at e;cases e
 refine I.step (g':=s.gens) (d':=s.drawn) (ch:=ch) (λb h=>qi9 f h) (λb o _ _ a e _=>jD k a) (λb o _ _ a e _=>#[o.slots,jD k a]) (λb o _ e n=>x b o e n)
  (λb o a e=>#[o,jD k a]) (λb j e=>jj1) (λb o u e=>jj1) (λb C e=>#[#[],by rw[jj1];simp]) (AQ m y) jO4 I.bare
 ·show θ o A B t r y;show#[o,A,B,k _ o (λz=>xc9) t,r]
 ·cases q:H b with
  |none=>show new b u q e
  |some l=>
   rw[d b l q]at e;cases e;refine(I.hok b _ q).stay (zWg a p) (λc z=>jj0) λc j z=>jj0
   show jZ a
   ·rw[z];show g b _ q
   ·show g c _ z
def Inv.turnedN(I:á)(k:jo6)(d:∀b∈ch,zK6)(a:qP5)(new:zci jpi T tq) :
  TM jpi:=by
 let c:=zlf I a;refine I.turnedL k d (λb u e=>j8 (JY e c) e) (λb o e n=>j8 (λz=>by rw[z]at e;show č CT (lU a)) n) (ś b u n e)
 show zDe z T e
 ·rw[Qz z,n]at e;cases e
#print"-"
abbrev Itv(K:Nk)(a:Addr)(n:Nat):It:=#[jAa,λi H x c=>c=H/\∀b,Su b->b[n-1-i]?=sO x,zXe]
def QgB{K:Nk}(a it:Addr)(n:Nat):Turn P w K tg (Itv K a n) [it] it (λi h=>i<=n/\h.IsRevIter it a (ū-1-jd)) where
 mem:=Ç
 obj:=λi h st b j=>by
  show zm5
 keep:=jXf m
 item:=by
  intro X r hw t M i f s D H E I l st q;subst r hw t;let#[hi,F,L,hl]:=q;let#[U,rv,p,hz]:=Ad L;obtain⟨x,J⟩:∃x,F[n-1-i]?=sO x:=#[F[n-1-i]' ĥ,Nl _]
  show(jc6 S J,job);let e:ū-1-jd=qWe:=Ė
  show zka;rw[e]at hit;refine wpAny_pyNext_rev_item hit p.isList (x:=u) zK7 (Ú m g Q);let e2:qWe-1=ū-1-((i+1:Nat):Int):=Ð
  rw[e2]at g;let I1:xm f D m:=I.turned (t':=s.toks) (P8 o j e Q) C f1 B A y;show(kA g,#[u,rfl,ox m #[x,H,I1,S,qBe Y L J,#[hi,g],ur j l]])
 done:=by
  intro X r hw t M i f s D H E I l st q;subst r hw t;show job;let Z:n<=i:=q;let e:ū-1-jd=-1:=by let:=st.1;lia
  show zka;rw[e]at hit;show wpAny_pyNext_rev_end (Te M) hit λm eb=>#[rfl,I.turned (t':=s.toks) zn6 C f1 B A y]
 self:=λ_ _ _ _ _ st h=>LZ st.2 h
abbrev Qwm(K:Nk)(e:TA):TI:=λc H R=>e c H λd H1=>∃a b,d=TD/\xwd/\R (Itv K a b.length) H1
def Qnu{n a:Expr}(C:zQg)(A:zN1)(E:zk9 r)(y:yt:=by rfl):PI X n qej (Qwm X.K r):=by
 show Č c j R;refine Call_ (Xn I C A boot_reversed (EA (ň (vC E c j) J f m) y rfl));show Ŷ F v w m;let#[ad,g,e,z,q]:=w;subst e;show(PN t v,qjb t x M z B);refine LZ (l:=ad) (i:=zCa-1) Tv ?_;refine#[f.heap.objs.size,kC f,_,_,H1,rfl,zZ f,QgB ad _ g.length,#[NQ _,?_],Ó b D,q]
 ·refine#[_,Ű,rfl,?_];let:((d.toArray.size:Nat):Int)-1=(g.length:Int)-1-CN:=by rw[ND,B];simp
  rw[<-this];rfl
 ·show zq2 f D
#print"-L2"
namespace Mi
open L2
abbrev Qea(ms:MA):MI:=λb h=>(ms b h).bind λp=>match p.1 with
 |[À a]=>sO (a.reverse,nO,p.2)
 |[Ä n]=>match p.2[n]? with|qt a=>sO (a.reverse,sO qZ0,p.2)|_=>nO
 |_=>nO
section
variable{K:Nk}{R:Rn}
def Qic(l:eA)(r:ϕ):ItOk K R (Itv K a xs.length) ws.reverse nO where
 go:=λi w j h H x d _ e=>by
  let c:=à e;rw[Er,r.length]at c;show#[c,xs,zzf,rfl]
 yld:=λi w j h H x s e d _ g m=>by
  show BH n m;let c:=à g;rw[Er]at c;rw[LB c]at g;show ϧ v q p r g;let:=n xs qbg;rw[<-r.length,q]at this;cases this;show#[j,CV,d,CW e p]
 stop:=λi j h H x d _ c=>by rw[Er,r.length]at c;show c
def QfM{ws:Ã}(o:n<R.N):ItOk K R (Itv K ŕ ws.length) ws.reverse (sO qZ0) where
 go:=λi w m h H x b a e=>by
  let f:=à e;show jB3;rw[jgf]at d;show#[ø f,g,To d,c.length.symm]
 yld:=λi w m h H x s e b a l p=>by
  show(BH q p,jB3);rw[e.ρ n o]at d;let f:=à l;rw[Er]at f;rw[LB f]at l;show ϧ v g1 g2 c l;let:=q g (SqL.of d);show(Cv g1,#[m,CV,b,g2])
 stop:=λi m h H x b _ a=>by rw[Er]at a;show a
#print"-"
section
variable{X:Cx}{tg a b:Expr}{ms:MA}{p pos tpos:Pos}{elts:ā}{kk:Nat}
def Ql6(z:zQg)(y:zN1)(A:za1)(w:yt:=by rfl):pD qej (Qea ms):=
 WE (Qnu z y A w) λI H C q=>by
  let#[R,i,h,items,t,L,u,st,e,k]:=q;show TJ r E F d e #[R,i,h,r,E,u,st,F,CD J o c];split at d
  ·show jWf s l;let f:=l;show(Š f,qq3,#[ad,j,rfl,SqL.of (c.sub _ _ hF),uU o c (Qic (SqL.of hF) rr)])
  ·rename_i n g;show vL g;split at d
   ·show(B3 s x d,xlg,zfh m j D B c l x);refine#[_,j,rfl,To D,?_];show(uW B,uU o c (QfM m))
   ·cases d
  ·cases d
#print"-"
abbrev Qde(mk mv:ME):ME:=λa h=>(mk a (h++[jW])).bind λp=>(mv a p.2).bind λq=>(J3 MU p.1 q.1 q.2).map λb=>(ģ,b)
section
variable{prog:Program}{w:World}{A:Around}{E:Ô}{s:Shared}
def Qh4(h:wpAny ŝ A g (λd e=>Ct f (Rt a c (dictSet s.heap.objs.size d a) (λ_ b=>Q s.heap.objs.size b)) e) E { s with heap:=zz }) :
  ò (subDict [(g,f)]):=by
 show(Ê (wpAny_alloc (Na zi9)),Ŵ Å);show ĵ (evalPairs_cons (Eb h (λd e l=>Eb l (λa c j=>evalPairs_nil ?_) qI) qI));refine N9 ?_;rw[IC];show ĵ (Na (show wpAny ŝ A (dictSet s.heap.objs.size d a>>=λ_=>pure (ForInStep.yield PUnit.unit)) _ _ c from Na (Eb j (λ_ b i=>Nn ?_) qI)));apply wpAny ŝ A (forIn [] PUnit.unit _) _ _ b;rw[List.forIn_nil];show ύ (Nn (Nn i))
#print"-"
section
variable{X:Cx}{k v:Expr}{mk mv:ME}{pos:Pos}
def Qil(hu:Ł)(hk:PM X k mk)(hv:PM X v mv):þ (.Dict [sO k] [v] pos) (Qde mk mv):=by
 intro f s σ H Q I E;let#[R,p,h,w,h',rh,st,e,kk]:=E;show(į S h1 e1 e2 e,į J h2 e3 e4 e2,ť h3 e5 e6 e4);let hn:=PH;let I1:=I.laid (a:=s.heap.objs.size) (o:=zkg) (h':=zz) (t':=s.toks) oG ĕ qN5;let#[R1,F,P,L]:=rh.new (mo:=jW) (o:=zkg) hn (Ľ R' x' zO3)
 rw[arm_eval_Dict,zip_pairTrees [sO k] [v] X.env pos rfl rfl,dictDisplay_pairs _ qJ6 qJ6];show Ê (Lv (Na (Qh4 ?_)));refine thn (hk f _ σ _ (zKc Y H2 R2 R1 h1 S) I1 #[R1,p,zPc,S,h1,P,BW F,e1,λR2 H2 Y r i rk=>#[R2,r,i,rk]]) λku s2 z1=>?_;let#[Y,H2,I2,N,R2,r,i,rk]:=z1;show ĵ (thn (hv f s2 σ H2 (zKc m H3 g R2 h2 J) I2 #[R2,p,h1,J,h2,i,st.mono (Ę F r),e3,λg H3 m l d rv=>#[g,l,d,rv]]) λvu s3 E=>?_);let#[m,H3,I3,M,g,l,d,rv]:=E;show Ê (Lv υ);let#[n,U,x,en,Z,y,hl,rfl]:=UQ e5;cases en;let#[D,xs,hx,dr,z,lo,rr,dd]:=QaF I3 d Z;show zh4 B I3 d qNb N y;let r3:=CW (Ę r l) L;let u:=r3;show Š u;let#[aa,er]:=u;let C:g.ρ h.length=s.heap.objs.size:=by injection er with q;show q.symm
 rw[C]at hx lo dd;let ae:=N7 dr;let j:=N7 rr;refine YQ (show X.A.units+8<cLine by show zDc) B dd (Nh (ī j) z) λh4 ab hs=>Nn ?_;show qj4 D x m
 let I4:=Y2 (t':=s3.toks+(Qi X.prog X.w).draws x) I3 hx hz lo (Ul rr M) hs ab;let t:=d.put (n:=h.length) (o:=.dT (QaB D x c m)) (mo:=Ŏ (US U x S J)) aa #[_,rfl,Ux dr qNb y rv];rw[C]at t;show#[δ s,_,I4,rfl,kk g _ _ (TW F r l) t r3]
abbrev QtW(a:W)(ws:Ã)(h:MH):Þ:=match a,ws with
 |Ä n,[]=>match h[n]? with|Mv=>sO (.non,ϝ zej)|_=>nO
 |_,_=>nO
abbrev Yz(ws:Ã)(h:MH):Þ:=match ws with
 |[a]=>(Kb h a).map λb=>(ģ,h++[.lst (b.map (·.1))])
 |_=>nO
def Gq(hc:ı):Ĵ CI (Fs X.K Yz):=by
 intro J s σ H f us Q I r q;let#[R,h,ws,w,N,E,m,e,k]:=q;unfold Yz at e;split at e
 ·show(jp0 z F,PN Y r,jB2 L D E F,Ck u Y);let#[o,C,P,h1,h2,h3,M,_,h5]:=dd;let d:C.size=f.length:=LX M;let A:=N7 rr;refine OW (zUh C P) fz #[o,h1,h2,h3] (Nh (Nh zh7 (ī A)) D) λN tk b c' kp eL c=>?_
  let hv:jJb L:=by
   let:jGc:=by
    show jqe B M
    ·show joe l1 Z
   rw[this];show Ud rr
  let hp:=PH;let#[R3,S,x,t]:=E.new (mo:=.lst (z.map (·.1))) (o:=À (L.map fm)) (p:=s.heap.objs.size) hp (Ľ R' U #[_,rfl,So U (WX dr)])
  refine#[δ s,_,zm2 (jBe N D),rfl,ϱ R3 S x t]
 ·cases e
#print"-"
#print"-Mi"
namespace St
def Wb(t:SetTable)(n:Nat):(t.orStandIn n).led=t.led/\(kK->(t.orStandIn n).plain=false):=by
 unfold SetTable.orStandIn;split
 show Ħ #[rfl,id]
 show Re
def QaG(t:SetTable)(es:xD)(g:Int)(x:Value):(layNew t es g x).2.1.led=t.led/\(kK->(layNew t es g x).2.1.plain=false):=by
 unfold layNew;split
 ·show Wb _ _
 show Re
def Qfe(e:SetTable.laid m f v l p b=sO r):r.1.led=l/\r.1.plain=p:=by
 unfold SetTable.laid at e;let#[o,_,a]:=ĸ e;show Ω a ζ
def W7(t:SetTable)(es:xD)(n:Nat):(relayAll t es n).2.1.led=t.led/\(kK->(relayAll t es n).2.1.plain=false):=by
 unfold relayAll;split
 ·rename_i b c e;let hk:=Qfe e;show jjh
  show Ħ #[hk.1,λa=>hk.2.trans a]
  show Re
 show Re
section
variable{prog:Program}{w:World}{A:Around}{E:Ô}{s:Shared}
abbrev SetL(prog:Program)(w:World)(h:Heap)(a:Addr)(ks:Á)(led:Bool):Prop:=
 ∃o b c t,TB/\o.ExactSet/\o.data=.set b c t/\zD0 b/\qZg/\zlg t b=true/\t.led=led/\(b.size=0\/kK)/\ks.Nodup/\qZh/\jx7
def SetL.at{h h':Heap}{a:Addr}{ks:Á}{led:Bool}(x:zOj h)(e:zt7):zOj h':=by let#[o,c,d,t,b,r]:=x;show#[o,c,d,t,e _ b,r]
def SetL.lt{h:Heap}{a:Addr}{ks:Á}{led:Bool}(x:zOj h):zT6:=by let#[_,_,_,_,b,_]:=x;show NL b
def stored{h:Heap}{o:Obj}(g:TB)(f:o.ExactSet)(hd:vh)(h1:zD0 b)(h2:qZg)(n:zlg t' b=true)(m:b.size=0\/t'.plain=false)(l:ks.Nodup)(j:qZh)(i:jx7) :
  jX7/\qz3/\(∃c,qr7)/\SetL prog w (h.update a qt2) a ks t'.led:=by
 let g1:jX7:=Ez _ g (by rw[zO6];rfl);let g2:qz3:=by rw[zO6];show f
 let g3:∃c,qr7:=by rw[zO6];show û
 show(ĉ c d g3,#[g1,g2,ę c d,_,b,c,t',g1,g2,d,h1,h2,n,rfl,m,l,j,i])
def Qi2(x:Str)(c:Tok):qkj:=by
 apply Value.isStrOf x Sj=true;simp[Value.isStrOf]
def QvT{a:Addr}{ks:Á}{led:Bool}{x:Str}{c:Tok}{Q:yi}(hS:SetL prog w s.heap a ks led)(room:ks.length+1<scanBound)
  (h:∀b h',TX a->SetL prog w h' a (if x∈ks then ks else jh7) led->xL b h') :
  ò (setAddHashed a Sj x0):=by
 let#[o,J,ep,t,X,hx,hd,y,hb,hf,m,ab,Y,hn,i]:=hS;let hk:qkj:=Qi2 x c;let H:(Value.str x c).scannable=true:=rfl;let quiet:∀(b:Bool) {B:Shared} {D:qp},D () B->Ct (match b with|true=>qt3|false=>jk9) D B:=λb _ _ q=>by cases b<;>first|show Nn q|show Ds q
 refine N9 (Na (Fp X hd hf ?_));dsimp only;rw[byScan_of H hb y,Ĥ];show Ê (Na (Ds (Na (wpAny_setScan_of hk X hd hf y ?_))));cases hr:List.findIdx? (λe=>qZi x) J.toList with
 |some j=>
  let#[hj,pj,_]:=Di.mp hr;let f:x∈ks:=(i x).mpr #[J.toList[j],Dw hj,pj];show Ϫ υ;let q:=h false s.heap (Heap.SameBut.refl a s.heap) #[o,J,ep,t,X,hx,hd,y,hb,hf,m,ab,zu6 f Y,by rw[Ò f];show hn,zu6 f i];show q
 | none=>
  let f:x∉ks:=λf=>by
   let#[e,z,p]:=(i x).mp f;let:=ID.mp hr e z;show Cv p
  rw[Õ f]at h;let pm:=layNew_perm t J x0 Sj;let ft:=layNew_fits t J x0 Sj;let kp:=QaG t J x0 Sj;generalize layNew t J x0 Sj=L at pm ft kp ⊢;let#[d,t1,ae,gv]:=L;dsimp only at pm ft kp ⊢;rw[Le]at pm;let aa:zD0 d:=(y.push hk H).perm pm;let F:d.size=(ks++[x]).length:=by rw[<-Ea,pm.length_eq,NH,Ea,NH,hn];rfl
  let b1:d.size<scanBound:=by rw[F,NH,Em];show room
  let U:(ks++[x]).Nodup:=by
   rw[Eh];show#[Y,Ç,λu hu v hv e=>f (by rw[Nz.mp hv]at e;rw[<-e];show hu)]
  let C:∀k,k∈jh7↔∃e∈d.toList,zB9:=λk=>by
   rw[NI,Nz,i k];constructor
   ·rintro(⟨e,z,p⟩|rfl)
    show Ħ #[e,pm.mem_iff.mpr pI,p]
    show Ħ #[_,pm.mem_iff.mpr mV,hk]
   ·rintro⟨e,z,p⟩
    show η (pm.mem_iff.mp z) q
    ·show đ #[e,q,p]
    ·rw[ĳ q]at p;show ô ((strKind prog w).inj _ _ _ p hk)
  let fin:∀(g:SetTable),zlg g d=true->g.led=led->g.plain=false->wpAny ŝ A (do
    storeSet a d g
    if(!ae&&g.tooFull)=true then do
      (match (relayAll g d qW).2.2 with|true=>qt3|false=>jk9)
      storeSet a (relayAll g d qW).1 (relayAll g d qW).2.1
      xgg
     else xgg) (λr P=>∃v,jBf) E s:=by
   intro g f2 l2 p2;show Ê (wpAny_storeSet_of X hd ?_ (fits_of_scanBound b1));let#[g1,g2,#[ah,g3],g4]:=stored (prog:=prog) (w:=w) X hx hd aa b1 f2 (ü p2) U F C;rw[l2]at g4;let sb:=N1 s.heap a (Obj.putSet d g);split
   ·let l:=relayAll_perm g d qW;let I:=relayAll_fits g d qW;let n:=W7 g d qW;generalize relayAll g d qW=R at l I n ⊢;let#[Z,t3,af]:=R;dsimp only at l I n ⊢;let N:Z.size=d.size:=by rw[<-Ea,l.length_eq,Ea]
    let b2:Z.size<scanBound:=uq N b1
    show ĵ (quiet _ (Na (wpAny_storeSet_of g1 g3 (AU #[true,rfl,_,sb.trans (N1 _ a _),?_,rfl]) (fits_of_scanBound b2))));let#[_,_,_,g5]:=stored (prog:=prog) (w:=w) (ks:=jh7) g1 g2 g3 (aa.perm l) b2 I (ü (n.2 p2)) U (Ę N F) (λk=>(C k).trans #[jw #[e,z,q] #[e,l.mem_iff.mpr z,q],jw #[e,z,q] #[e,l.mem_iff.mp z,q]]);rw[n.1,l2]at g5;show g5
   ·show ύ #[true,rfl,_,sb,g4,rfl]
  let S:∀r P,(∃v,jBf)->Ct (match r with|è M=>pure M|none=>setAddHashedIn a Sj x0 99999) Q P:=by
   rintro r P ⟨v,rfl,h',q1,q2,rfl⟩
   show ύ (h v h' q1 q2)
  show Ê (quiet _ ?_);cases hp:t1.plain with
  |true=>
   rw[Ĥ,hashByValue_scannable 8 H];show(Ê υ,Eb (fin { t1 with plain:=false } (SetTable.fits_plain_off ft) qZj rfl) S TK)
  |false=>
   show(By,Ê υ,Eb (fin t1 ft qZj hp) S TK)
#print"-"
abbrev uniq(l:Á):Á:=l.foldl (λu x=>if x∈u then u else u++[x]) []
def uniq_snoc(l:Á)(x:Str):uniq (l++[x])=if x∈zl1 then zl1 else zl1++[x]:=by unfold uniq;rw[Lf];rfl
def Qg2:∀(n:Nat) (l:Á),zdd->(uniq l).length<=n:=by
 intro n
 induction n with
 |zero=>intro l h;rw[zj8];show NA _
 |succ n a=>
  intro l h;show zxh
  rw[uniq_snoc];let:=a u zHj;split
  ·show Nh this Ů
  ·rw[NH,Em];show NX this _
def uniq_mem:∀(n:Nat) (l:Á),zdd->∀y,y∈zl1↔y∈l:=by
 intro n
 induction n with
 |zero=>intro l h y;rw[zj8];show Ybk
 |succ n a=>
  intro l h y;show zxh
  let q:=a u zHj;rw[uniq_snoc,NI,Nz];split
  ·rename_i b;rw[q y];show#[.inl,λz=>z.elim id λe=>by rw[e];show(q x).mp b]
  ·rw[NI,Nz,q y]
section
variable{prog:Program}{w:World}{A:Around}{R:w9}{I:Addr}{fp wr:ς}{G:zRi->zRi->Prop}{n:Nat}{P:Nat->cf}{St':Nat->Ϣ}
def Qr6(W:WalksS prog w A.in1 I fp wr G n P St')(S:Addr)(f:S∉fp)(led:Bool)(l:Á)(F:zdd)(E:∀i v,P i v->∃x c,l[i]?=sO x/\jab)(M:n+1<scanBound) :
  ∀(k i:Nat) (s:Shared),n-i=k->i<=n->St' i s->qu8 s ->
   (∀a,Moved (S::wr) G s a->SetL prog w a.heap S (uniq l) led->R qk6 a) ->
   ff (.builtin "set.update.loop" #[[Ä S,Ä I],[]]) R s:=by
 let B:S∉wr:=ϴ f (W.sub _ z);let sub:∀b∈wr,b∈S::wr:=λb z=>C4 z;intro k
 induction k with
 |zero=>
  intro i s hk H st hS t;obtain rfl:i=n:=Ð
  show xgh;apply zy1;show Ê (W.done s _ _ st λa d=>Nn (t a (d.mono sub) ?_));rw[Lq (Nv F)]at hS;show qAd
 | succ k C=>
  intro i s hk H st hS t;let lt:i<n:=Ð
  show xgh;apply zy1;show Ê (W.item i s _ _ lt st λv a J g d=>?_);let#[x,c,D,rfl]:=E i v J;let r:qu8 a:=qAd;apply wpAny _ A.in1 (holding [Value.str x c] (setAdd S Sj)>>=_) _ _ a;show Ê zi9;refine N9 (Na ((strKind prog w).pyHash (k:=x) (Qi2 x c) ?_))
  let room:(uniq zYe).length+1<scanBound:=by
   let:=Qg2 _ zYe rfl;rw[EK]at this;lia
  refine QvT (s:={ a with toks:=a.toks+1 }) r room (ś b L y p)
  let m:SetL prog w L S (uniq (l.take (i+1))) led:=by
   rw[E3,D,FS,uniq_snoc];show p
  show Ϫ #[DR IZ _,C (i+1) _ Í lt (W.frame _ a _ _ g iW (ś b z o e)) m (Ú h j q)]
  ·show ug y b (λu:b=S=>f (S5 u z)) e
  ·refine t h (Moved.trans W.gtrans ((d.mono sub).then_heap iW (ś b o z e)) j) q;show ug y b (λu:b=S=>z (za2 u)) e
#print"-"
section
variable{prog:Program}{w:World}{A:Around}{E:Ô}{s:Shared}
noncomputable abbrev Yo(w:World):Bool:=! zz0
noncomputable abbrev Zb(b:Bool):Obj:={ cls:=xz1,dict:=nO,data:=.set #[] 0 (.fresh 0 0 b) }
def Qwe(a:Value)(h:Q₁ AZ { s with heap:=jL3 }) :
  ff (.call (.builtin "set.__new__") zH3) (wants Q₁ E) s:=by
 refine codeAny_of_tree (show wpAny _ A.in1 (do checkBuiltinCall "set.__new__" zH3;again (.builtin "set.__new__" zH3)) _ _ s from ?_);show ĵ (Yar (F.newCall_set_1 a) (AU #[DR F.plain_set_new _,Dt (F.entry_set_new) ?_]));rw[Dl F.plain_set_new _];unfold Builtin.«set.__new__» Builtin.Frozenset.newClass;let b:=sub_set_self;show kj c
 wp_walk
 refine FE υ;show Na (wpAny_alloc qS1)
def Qci(e:Ų a=sO (Zb b)):SetL prog w h a [] b:=
 #[_,#[],0,_,e,xJ,rfl,λx c=>AF c,õ,rfl,rfl,iw,EF,rfl,λk=>Ç]
def QrV{Q:Ô}(S:Ξ)(P:RP)(hi:xlh r)(U:qJ7)
  (h:∀(h':Heap) (tk:Nat),qy2 (uniq r)->jvc) :
  jTc A (jZ3 y):=by
 let hS:jZb:=Ű;let hT:jV7:=zS9
 let#[ol,j,q,nl,p]:=P;let#[J,f,B,a]:=ol;simp only at q p;subst q p;let g:(s.heap.push mz).get? l=sO { cls:=Ī,dict:=f,data:=.seq items nl,slots:=a }:=Ś j;let n:(s.heap.push mz).IsList l items:=#[_,g,rfl,nl,rfl]
 let n1:=F.sub_list_set;let n2:=F.sub_list_frozenset;let n3:(qWg==Value.type "dict")=false:=õ
 unfold Builtin.«set.__init__» noKeywords Builtin.Frozenset.updateFrom;generalize I:pyIter=PI
 wp_walk
 subst I;refine FX n (Na (wpAny_runValue ?_));let m:qsj:=NL j;let d:zC1=yO:=DY _ _;let C:l≠zC1:=by rw[d];show NK (E4 m)
 let M:s.heap.objs.size∉[zC1,l]:=by
  rw[d];show(zI0,#[NK B9,EB m])
 let D:r.length=items.size:=by let:=YaA hi;rw[Ea]at this;show this.symm
 let N:∀(i:Nat) (v:Value),cv=sO v->∃x c,r[i]?=sO x/\jab:=λi v e=>by
  let L:items.toList[i]?=sO v:=by rw[Ee];show e
  let#[x,c,rfl]:=hi.all v (A8 i L);refine#[x,c,?_,rfl];rw[<-hi.strs,Np,L];rfl
 refine Qr6 ((YaO (show xR by simp[S]) _ l C items).toS) s.heap.objs.size M fF r D N U zQh 0 _ rfl Ō #[Tv,n.push _] (Qci (Nr _ hS)) (Ú y t H);show θ h' X d' u z y;let Z:X=s.gens:=t.gens;let ed:d'=s.drawn:=t.drawn;let Y:z=s.os:=t.os;subst Z ed Y;show Ϫ (AU #[rfl,h h' u H λb o lt e=>?_]);refine t.heap b o ?_ (Nr _ Sz);show zI0;show#[NK lt,by rw[d];show NK (E4 lt)]
def set_list(x:Ξ)(v:RP)(hi:xlh u)(y:qJ7)
  (h:∀(h':Heap) (tk:Nat),qy2 (uniq u)->jvc) :
  ò (call xdg [Ä l]):=by
 let body:∀(m:Around),m.handled=nO->jTc m (jZ3 n):=by
  intro m B;show QrV B v hi y h
 let#[c,D,p]:=FG.mro;let P:=FG.made;let N:=FG.sub;refine wpAny_call (codeAny_of_tree (show ż (callAny xdg _) from ?_));show Ϫ #[qmi,Dt (F.entry_type_call) ?_];rw[Around.under_plain (weight_type_call_type "set" [Bv l] []) rfl];let M:=FG.notType;let L:=FG.canCreate;let J:=F.typeCall_set_1 (cR l)
 show mR
 refine F6 (Qwe (cR l) (E:=E) (Q₁:=λobj f=>zw7/\f={ s with heap:=jL3 }) ζ) (Ú r f j);cases r with
 |error e=>show j
 | ok C=>
  cases C with
  | ret obj=>
   show yW j;let hS:jZb:=Ű;let z:jV7:=zS9
   let I:=FG.init.lookup;let H:=FG.init.bind AZ
   show mR
   refine F6 (codeAny_call_builtin (R:=wants (λr d=>r=.none/\Q AZ d) E) FG.init.plain F.entry_set_init (check_set_init_1 z (Eb (body _ (ν x)) (λfin n q=>?_) TK))) (Ú i d a)
   ·show(cn q,jc9)
   ·cases i with
    |error e=>show a
    | ok g=>
     cases g with
     |ret r=>
      show BH q a
      show mR
     |_=>show C5 a
  |_=>show C5 j
#print"-"
def slotN:Slot "set_iterator" "__next__" "set_iterator.__next__":=.of (owner:="set_iterator") (n:="__next__") jL4 jL jL jL jw7 Rp
def Qjp:entryFor table "set_iterator.__next__"=sO Builtin.«set_iterator.__next__»:=jEf
def QoB(a:Value):argsOk "set_iterator.__next__" xq6:=xli
def Qok:entryFor table "set.__iter__"=sO Builtin.«frozenset.__iter__»:=entryFor_alias (id':="frozenset.__iter__") vo rfl jL vo
def WM(lt:j<l.length):List.Perm (l[j]::l.eraseIdx j) l:=by
 rw[List.eraseIdx_eq_take_drop_succ];let e:l=l.take j++l[j]::l.drop (j+1):=by rw[<-Ek lt,LC]
 conv=>rhs;rw[e]
 show List.perm_middle.symm
def QkZ(nx:zi0):∀(f k:Nat) (l:ä a) (o:Array a),f=l.length->List.Perm (pickOrder.go nx f k l o).toList (o.toList++l):=by
 intro f
 induction f with
 |zero=>
  intro k l o h;rw[EI.mp h.symm,EN];show .rfl
 |succ f b=>
  intro k l o h;unfold pickOrder.go;let lt:xlj<l.length:=Nat.mod_lt _ (Ng jkb (Nv h));generalize xlj=j at lt;rw[Nl lt];refine(b (k+1) (l.eraseIdx j) (o.push l[j]) (by rw[Ou lt];lia)).trans ?_;rw[Le,Ey,List.singleton_append];show List.Perm.append_left _ (WM lt)
def Qeg(nx:zi0)(xs:Array a):List.Perm (pickOrder nx xs).toList xs.toList:=by
 let:=QkZ nx xs.size 0 xs.toList #[] Å;simpa[pickOrder]using this
section
variable{prog:Program}{w:World}{A:Around}{E:Ô}{s:Shared}
def Qpl(a:n≠0)(h:∀j d,j<n->xgi j):cG M (choose src n):=λb p _=>by
 apply Sem.wp M b (.choose src n λi=>pure i) _ _ p s;rw[Sem.wp_choose];show#[a,h _ _ (Nat.mod_lt _ (DK a))]
def UV:∀(n:Nat) (xs:ä c) (s:Shared) (Q:ä c->Ϣ),n=xs.length->(∀b d,List.Perm b xs->xgi b)->ò (drawOrder n xs)
 |0,xs,s,Q,a,h=>by
  let e:=EI.mp a.symm;subst e;show ύ (h [] s.drawn .rfl)
 |n+1,[],s,Q,a,h=>B0 a
 |n+1,x::xs,s,Q,a,h=>by
  show ĵ (Qpl Å λj f lt=>?_);rw[Nl lt];show Ê (UV n _ _ _ (by rw[Ou lt];show(Tp a,a)) λb d p=>Nn (h _ d ?_));show(p.cons _).trans (WM lt)
#print"-"
#print"-St"
namespace Sb
open PySem SetTable
noncomputable abbrev At(xs:je2)(i:Nat):Nat:=xs.getD i 0
abbrev Up(xs:je2):Prop:=∀i j,i<j->j<xs.size->cD<At xs j
def QiA(up:Up xs):∀(f lo hi:Nat),hi-lo<=f->lo<=hi->hi<=xs.size->(∀i,i<lo->cD<j)->(∀i,hi<=i->zuj) ->
  zJd<=xs.size/\(∀i,i<zJd->cD<j)/\∀i,zJd<=i->zuj:=by
 intro f
 induction f with
 |zero=>
  intro lo hi s q l h g;let:lo=hi:=Ð
  show jHj
 | succ f p=>
  intro lo hi s q l h g;unfold below.go
  by_cases c:lo<hi
  ·rw[Ò c];let o:ja1/2<xs.size:=Ð
   let e:xs.getD xRj j=qAe:=by simp[Array.getD,o]
   let rel:∀a b,a<=b->b<xs.size->At xs a<=At xs b:=λa b n m=>by
    rcases OX a b with z|z
    ·show Nt (up a b z m)
    ·rw[show a=b by show Dr n z];show NA _
   dsimp only;rw[e]
   by_cases d:qAe<j
   ·rw[Ò d];show p _ hi ĥ Í l (λi r=>Ni (rel i _ Í o) d) g
   ·rw[Õ d];show p lo _ ĥ Í (Nt o) h (λi n m=>Nh (AM d) (rel _ i n m))
  ·rw[Õ c];let:lo=hi:=by show Dr q (AM c)
   show jHj
def QbM(up:Up xs)(j:Nat):jbe<=xs.size/\(∀i,i<jbe->cD<j)/\∀i,jbe<=i->zuj:=
 QiA up xs.size 0 xs.size CO Ō ĕ (λi h=>ϟ h HD) (λi b a=>Ð)
def below_next(up:Up xs)(hi:d6):below xs zo5=i+1:=by
 let#[c,b,a]:=QbM up zo5
 rcases Lg (below xs zo5) (i+1)with z|z|z
 ·let:=a i ĥ hi;lia
 ·show z
 ·let:=b (i+1) z;let:=up i (i+1) B9 (Ng z c);omega
def below_zero(up:Up xs):below xs 0=0:=by
 let#[c,a,b]:=QbM up 0
 rcases Nat.eq_zero_or_pos (below xs 0)with z|z
 ·show z
 ·show č (a 0 z) HD
def at_get(hi:d6):xs[i]?=sO (At xs i):=by simp[Array.getD,hi]
#print"-Sb"
namespace St
def Qi7:Slot "set_iterator" "__iter__" "set_iterator.__iter__":=.of (owner:="set_iterator") (n:="__iter__") jL4 jL jL jL jw7 Rp
def Qm5:entryFor table "set_iterator.__iter__"=sO Builtin.«dict_keyiterator.__iter__»:=entryFor_alias (id':="dict_keyiterator.__iter__") vo rfl jL vo
def Qpr(a:Value):argsOk "set_iterator.__iter__" xq6:=xli
section
variable{prog:Program}{w:World}{A:Around}{E:Ô}{s:Shared}
noncomputable abbrev Qha(f:Value)(i:Nat)(S:Addr)(n ep:Nat):Obj:={ cls:=zKd,data:=.fields jBg }
inductive How(w:World)(S T:Addr)(h:Heap)(es:xD)(ep:Nat)(t:SetTable)(vs:Ï):Nat->cf where
 |tup {i:Nat} {pSq:Ì} (hT:Ų T=sO { cls:=jN,data:=.seq (pSq.map zo6).toArray 0 }) (hl:pSq.length=vs.length) (hp:∀(j p:Nat),pSq[j]?=sO p->∃e,xyj/\vs[j]?=sO e.2):k3 h (ý T)
 |text {i:Nat} (c:Nat) (hb:f9=true) (hv:vs=(pickOrder zGb es).toList.map (·.2)):k3 h xs8
 |slots {i:Nat} (c:Nat) (hb:f9=false) (hled:jbf) (hs:xc) (hv:vs=es.toList.map (·.2)) (hc:zH4=i):k3 h xs8
abbrev ItT(w:World)(I S T:Addr)(vs:Ï)(i:Nat)(h:Heap):Prop:=
 ∃f o a b t,Ų I=sO (Qha f i S vs.length b)/\Ų S=sO o/\o.data=.set a b t/\zlg t a=true/\(xs9\/a.size<=1->kL)/\a.size=vs.length/\How w S T h a b t vs i f
def QbI{t:SetTable}(a:xm0):t.place.size=n:=by
 simp only[SetTable.fits,N3,beq_iff_eq]at a;show a.1
def How.keep(x:k3 h f)(k:∀o,zE T o):k3 h' f:=by
 cases x with
 |tup m j g=>show .tup (k _ m) j g
 |text c d b=>show .text c d b
 |slots c d a e b l=>show .slots c d a e b l
def Qj7(k:Nat):rawInt ğ=Value.int k 0:=rfl
def Qvi:(xsa:Ń).setIfInBounds 0 x=#[x,a,b,c,d,]:=p7
def Qv6:(xsa:Ń).setIfInBounds 1 x=#[f,x,b,c,d,]:=p7
def QbK{h:Heap}(e:Ų I=qQ6)(k:Nat)(x:Value):(h.update I (Obj.mapFields (·.setIfInBounds k x))).get? I=sO { cls:=zKd,data:=.fields ((jBg:Ń).setIfInBounds k x) }:=Ez _ e rfl
def Qv8{h:Heap}(e:Ų I=qQ6):((h.update I (Obj.mapFields (·.setIfInBounds 0 x))).update I (Obj.mapFields (·.setIfInBounds 1 y))).get? I=sO { cls:=zKd,data:=.fields #[x,y,Ä S,zkb n,zUg,] }:=by
 let g1:=QbK e 0 x;rw[Qvi]at g1;show Ez (Obj.mapFields (·.setIfInBounds 1 y)) g1 rfl
def KY(f:P5)(d:vh)(b:xu)(a:f9=true)
  (h:Q (((pickOrder zGb es)[i]?).map λe=>(e.2,c)) s):ò qNc:=by
 show(jxe,By,uV,jxe,Ê qof,Nn h)
def W4(d:P5)(c:vh)(b:xu)(a:xyj)(h:Q e.2 s):ò (setNextDrawn S p ep):=by
 show Ê (Fp d c b ?_);dsimp only;rw[if_neg Å,a];show Nn h
def KB(g:P5)(f:vh)(e:xu)(d:f9=false)(a:jbf)(b:xc)
  (h:Q (match es[zH4]?,t.place[zH4]? with|some (_,x),sO j=>sO (x,j+1)|_,_=>nO) s):ò qNc:=by
 show(Ê (Fp g f e ?_),Ê ql3);apply ż jTf;rw[if_neg (vA d)];apply ż (BJ qo3)
 rw[if_neg (by
  show jZ b
  ·rw[z];simp
  ·show jL5)]
 apply ż ((if(!t.led&&!es.isEmpty)=true then unsupported "set:maker-not-led"else jk9)>>=_);rw[if_neg (vA a)];show Na qS1
def Qdl{i:Nat}(H:S≠I)(F:T≠I)(st:qH7)(hi:zXh)
  (Z:∀v h',zbi->ItT w I S T vs (i+1) h'->TX I->xL CY h'):ò qBd:=by
 let#[f,o,n,J,t,m,u,r,l,up,h,hw]:=st;show juf Y m l h;let two:∀(x y:Value),Heap.SameBut I s.heap ((s.heap.update I (Obj.mapFields (·.setIfInBounds 0 x))).update I (Obj.mapFields (·.setIfInBounds 1 y))):=λx y=>(N1 ..).trans fZ
 let on:∀(x:Value) (nx:Nat),vs[i]?=sO x->How w S T s.heap n J t vs (i+1) (.int nx 0)->wpAny ŝ A.in1 (do
   setField zo4 0 (rawInt (nx:Int))
   qs1 zo4
   ret x) (λfin L=>∃v,zBe/\Ct qw4 Q L) (zx8 L) s:=by
  intro x nx hx M;show ĵ (DA m rfl Å (Na (DA (QbK m 0 _) rfl Å (AU #[x,rfl,Nn (Z x _ hx ?_ (two _ _))]))));refine#[.int nx 0,o,n,J,t,Qv8 m,?_,r,l,up,h,M.keep (Ó o' e)]
  ·rw[(two _ _).2 S H];show u
  ·rw[(two _ _).2 T F];show e
 cases hw with
 |@tup b D X U=>
  show jD8 D;let j:b[i]?=sO b[i]:=Nl (Ng hi (ī X));generalize b[i]=q at j;let#[e,he,z]:=U i q j;let:((b.map zo6).toArray)[i]?=sO (Value.int zgb 0):=by simp[j,Qj7]
  rw[this];show ĵ (W4 u r l (p:=q) he (Na (DA m rfl Å (AU #[e.2,rfl,Nn (Z e.2 _ z ?_ fZ)]))));let P:Heap.SameBut I s.heap (s.heap.update I (Obj.mapFields (·.setIfInBounds 1 mT))):=N1 ..;refine#[Ä T,o,n,J,t,?_,by rw[P.2 S H];show u,r,l,up,h,How.keep (.tup D X U) λo' e=>kh P T F];let g:=QbK m 1 mT;rw[Qv6]at g;show g
 |text c C z=>
  show(jA E9,Ê (KY u r l (i:=i) (c:=c) C ?_));subst z;let a:i<(pickOrder (xsb J) n).size:=zO7
  rw[NT a];show on _ c qDd (.text c C rfl)
 |slots c C d N z hc=>
  show Ê (KB u r l (i:=i) (c:=c) C d N ?_);subst z;let a:i<n.size:=zO7
  let B:i<t.place.size:=by rw[QbI l];show a
  rw[hc,NT a,Sb.at_get B];show on n[i].2 (Sb.At t.place i+1) qDd (.slots _ C d N rfl (Sb.below_next (up N) B))
def Qbt(d:B.handled=nO)(f:∀h',P0->zH2) :
  tP B (qh4>>=raiseNew) (jAb c) (zx8 c) s:=by
 show(uV,jE2);rw[d];show(Ê qH5,HX (Ij (T:="StopIteration") (b:=true) oM isSubtype_stop ?_),Ϫ (f _ ?_));show λb o e=>Ś Sz
def UA(H:Ξ)(M:S≠I)(L:T≠I)(st:ItT w I S T vs vs.length s.heap)
  (z:∀h',Heap.ExtBut I s.heap h'->zH2):ò qBd:=by
 let#[f,o,C,N,t,h,u,r,q,up,d,hw]:=st;show juf y h q d;let B:xR:=H
 let one:wpAny ŝ A.in1 (do
   setField zo4 2 Value.none
   raiseNew (<-newExc jZc [])) (jAb j) (zx8 j) s:=by
  show Ê (DA h rfl Å jMf);rw[(N1 ..).2 b a];show e
 cases hw with
 |@tup l n F P=>
  show jD8 n;rw[show((l.map zo6).toArray)[vs.length]?=nO by simp[F]];show ĵ (DA h rfl Å (Na (DA (QbK h 0 _) rfl Å jMf)));rw[((N1 s.heap I _).trans fZ).2 b a];show e
 |text c a x=>
  show(jA E9,Ê (KY u r q (i:=vs.length) (c:=c) a ?_));rw[show(pickOrder (xsb N) C)[vs.length]?=nO by rw[x];simp];show one
 |slots c a g D x J=>
  show Ê (KB u r q (i:=vs.length) (c:=c) a g D ?_);rw[J,show C[vs.length]?=nO from Lm zh7];show one
def QrU(st:qH7)(h:Q zne s):ò (qb zne):=by
 let#[f,o,c,d,t,b,_]:=st;let a:qcd:=ϖ b
 refine OH a Qi7 (Eu Qi7 a Qm5 ?_ (Qpr _));show ύ #[_,rfl,"set_iterator",_,a,slotN.lookup,h]
def QnF(u:Ξ)(I S T:Addr)(d:S≠I)(c:T≠I)(vs:Ï) :
  Walks prog w A I [I,S,T] [I] vs.length (λi v=>zbi) (λi h=>ItT w I S T vs i h) where
 sub:=qAc
 frame:=λi h g z k=>by
  let#[f,o,B,C,t,H,F,D,y,up,l,hw]:=z;show#[f,o,B,C,t,zO8 I H,zO8 S F,D,y,up,l,hw.keep λo e=>k T Å o e]
 item:=λi s Q E r st m=>Qdl d c st r λv g p j n=>m v g s.toks p j λb o a e=>kh n b jXi
 done:=λs Q E st m=>UA u d c st λg x=>m g s.toks λb o a e=>jD x jXi
 self:=λi s Q E st q=>QrU st q
noncomputable abbrev atP(es:xD)(i:Nat):Value:=(es.getD i (0,.none)).2
def QcJ{pSq:Ì}(p:pSq.Perm qJ8):(pSq.map sH).Perm (es.toList.map (·.2))/\∀(j q:Nat),pSq[j]?=sO q->∃e,es[q]?=sO e/\(pSq.map sH)[j]?=sO e.2:=by
 constructor
 ·refine(p.map _).trans ?_
  let:(List.range es.size).map sH=es.toList.map (·.2):=by
   show cB;rw[Np,Np]
   by_cases lt:j<es.size
   ·simp[atP,Array.getD,lt]
   ·rw[qJ9,qJ9];rfl
  rw[this]
 ·intro j q a;let lt:q<es.size:=Ep.mp (p.mem_iff.mp (A8 j a));refine#[es[q],NT lt,?_];rw[Np,a];simp[atP,Array.getD,lt]
def Qs3{es:xD}(g:P5)(N:o.ExactSet)(x:vh)(u:xu)(up:xc->kL)(y:jbg)(hz:zO9)
  (h:∀h' d I T (vs:Ï),P0->s.heap.objs.size<=I->(T=S\/qP5)->S≠I->T≠I->vs.Perm (es.toList.map (·.2))->vs.length=es.size->ItT w I S T vs 0 h'->Q zne { s with heap:=h',drawn:=d }) :
  ò (qb MN):=by
 let H:qx5:=zhc g N
 let m:=NL g;refine OH H F.slot_set_iter (Eu F.slot_set_iter H Qok ?_ (F.args_set_iter_1 _));show(Ê (Na zX8),Ê (Na (Ob g x u υ)),Ê (Na (Fp g x u ?_)),Ê (Na (FE zX8)));apply ż (BJ (! zz0&&qo3))
 let made:∀(c:Int) (vs:Ï),c=0->vs.Perm (es.toList.map (·.2))->How w S S (s.heap.push (Qha qTa 0 S es.size ep)) es ep t vs 0 qTa->wpAny ŝ A.in1 (do
   let first <-pure (rawInt c)
   ret (<-newFields "set_iterator" [first,xgj,Bv S,rawInt xlc,rawInt ((<-setEpoch S):Int)])) (λfin D=>∃v,zBe/\∃J r,D.TypeIs v J/\typeLookup (Value.type J) (Str.ofString "__next__")=pure (sO r)/\Q v D) E s:=by
  intro c vs U p hw;subst U;show Ê (CJ (Na (wpAny_setEpoch_of g x u (Na jTd))));let a:es.size=vs.length:=by rw[p.length_eq,Nq,Ea]
  refine h _ s.drawn s.heap.objs.size S vs (λb M e=>Ś e) ĕ jV (NK m) (NK m) p a.symm ?_;show#[.int jj8 0,o,es,ep,t,jEg,Ś g,x,u,up,a,hw]
 cases q:f9 with
 |true=>
  show(By,made 0 ((pickOrder zGb es).toList.map (·.2)) rfl ((Qeg _ es).map _) (.text 0 q rfl))
 | false=>
  let n:jbf:=by rw[y];simp[Yo,q]
  by_cases C:kK/\es.size>1
  ·show Ŵ (by simp[C.1,C.2]);show ĵ (UV es.size qJ8 s _ Å (Ú f d p));let B:f.length=es.size:=by rw[p.length_eq,Fl]
   show Ê (wpAny_newTuple ?_ (by rw[Nq,B];show hz));show(Ê (wpAny_setEpoch_of (s:={ s with drawn:=d,heap:=s.heap.push { cls:=jN,data:=jx8 } }) (Nr _ g) x u ?_),Ê jTd);let#[L,q2]:=QcJ p;let a:es.size=(f.map sH).length:=by rw[Nq,B]
   let j:(s.heap.push { cls:=jN,data:=jx8 }).objs.size=yO:=DY _ _;refine h _ d _ s.heap.objs.size (f.map sH) (λb M e=>Ś Sz) (by apply s.heap.objs.size<=zGc;rw[j];show Sk) (ü ĕ) (by apply S≠zGc;rw[j];show NK (E4 m)) (by apply s.heap.objs.size≠zGc;rw[j];show NK B9) L a.symm ?_;refine#[δ s,o,es,ep,t,jEg,Ś (Nr _ g),x,u,up,a,.tup (pSq:=f) (Nr _ zYf) (by rw[<-a,B]) q2]
  ·let l:xc:=by
    cases P:t.plain with
    |true=>show iw
    |false=>
     right
     rcases OX 1 es.size with z|z
     ·show č (ę P z) C
     ·show z
   rw[if_neg (by
    show jZ l
    ·rw[z];simp
    ·show jL5)]
   show made 0 (es.toList.map (·.2)) rfl .rfl (.slots 0 q n l rfl (Sb.below_zero (up l)))
def QrR(d:qx5)(h:jd7):ò (xm1 MN):=by
 show Ê (DN d F.slot_set_len.lookup ?_);generalize a:("set.__len__":String)=c
 show(qt4 ("set","__len__"),Ê (Ij (T:="set") (b:=true) d Rp ?_));refine Yaf (λz=>ϟ z Ñ) (λ_=>Yaf i3 (λz=>ϟ jL z));show Na (DP d zX7)
noncomputable abbrev lsO(xs:Ń)(c:Nat):Obj:={ cls:=Ī,dict:=nO,data:=.seq xs c,slots:=#[] }
def Qli(hh:Ξ)(e2:P5)(J:o.ExactSet)(e3:vh)(ft:xu)(up:xc->kL)(y:jbg)(m:N≠S)(res:Value)(i:Nat)(hN:ů s N=sO (lsO #[] i))(hz:zO9)
  (hR:∀h' d tk (vs:Ï) r,vs.Perm (es.toList.map (·.2))->(∀b o,b≠N->TC)->uM N=sO (zP0 r)->xz2 R qAa) :
  wpAny ŝ A.in1 (jy5 N S) (jtd l r) (qKb l) s:=by
 show Ê (DP (T:="set") (zhc e2 J) ?_);let n1:Builtin.List.listSameRef (ý N) MN=false:=qs2
 let n2:(xa1==qWg)=false:=õ
 let n3:(xa1==qTb)=false:=õ
 simp only[n1,n2,n3,YaT,Du,if_false];show Ê (Qs3 e2 J e3 ft up y hz λZ d I T vs D hI M Q P str L st=>?_);let n:=D _ _ hN;let v:N<s.heap.objs.size:=NL hN;let X:N≠I:=λz=>absurd hI (xa2 z)
 let U:N≠T:=by
  show jZ M
  ·show ώ z m
  ·show λe=>ϟ z (xa2 e)
 let nf:N∉[I,S,T]:=by
  show(zI0,#[X,m,U])
 let W:=QnF (prog:=prog) (w:=w) (A:=A.in1.in1) (by simp[hh]) I S T Q P vs
 let key:∀(C:Heap) (a:Nat),ItT w I S T vs 0 C->(∀b o,b≠N->Ϲ->Bl C b=sO o)->Bl C N=sO (lsO #[] a)->codeAny ŝ A (.builtin "list.extend.loop" #[[Ä N,Ä I,res],[]]) R { s with heap:=C,drawn:=d }:=by
  intro C a H k2 g;refine YaP (Walks.of_in1 W).toS (by rw[L];show hz) N nf res vs.length 0 _ #[] a rfl Ō H g qWh λl p r hm B h=>?_;rw[Moved.eq_with hm]
  let ea:p=vs.toArray:=by
   refine' Array.ext_getElem?;intro j
   by_cases F:j<p.size
   ·let q:=h.2 j p[j] (NT F);rw[NT F,Fi,q]
   ·rw[Lm (AM F),Fi,NY (by let:=h.1;show Nh zQb (AM F))]
  rw[ea]at B;refine hR l.heap d l.toks vs r str (λb o c e=>hm.heap b o (q5 x) (k2 b o c e)) B
  show T3 x z
  ·show c z
  ·rw[ĳ z]at e;show č CT (N4.mpr hI)
 show ĵ (N9 (QrR #[o,D _ _ e2,J.1] ?_));refine Yaf i3 (λ_=>Nn #[jkc,key Z i st (λb o _ e=>D b o e) n]);show Ê (Ds zbf);apply wpAny _ _ (updateSeq N (·.push .none)>>=λ_=>updateSeq N (·.pop)) _ _ _;show Ê (LU n rfl ?_);let g:=Ez (Obj.mapSeq (·.push Value.none)) n rfl;refine LU (hz:=by seq_fits) g rfl ?_;let Y:=Ez (Obj.mapSeq (·.pop)) g rfl;let u:∀b o,b≠N->Bl Z b=sO o->((Z.update N (Obj.mapSeq (·.push Value.none))).update N (Obj.mapSeq (·.pop))).get? b=sO o:=λb o c e=>zgd (N8 c) (xh0 c);show Ϫ #[jkc,key _ _ (W.frame 0 _ _ st λb c o e=>jD u (λz=>nf (S5 z c))) (λb o c e=>u b o c (D b o e)) Y]
def Qgq(x:Ξ)(m:P5)(p:o.ExactSet)(z:vh)(y:xu)(up:xc->kL)(j:jbg)(hz:zO9)
  (h:∀h' d tk (vs:Ï),vs.Perm (es.toList.map (·.2))->jT3):ò qAf:=by
 show(ĵ (wpAny_runValue (Dt entry_proto_collect' (show Ň (do again (.builtin "list.__iadd__" #[[<-newList [],Ä S],[]])) from ?_))),ĵ (Ov (AU #[qmi,Dt (entry_list_iadd') ?_])));let l:=NL m;rw[Dl F.plain_list_iadd _]
 let fin:∀(r:Result) (c:Shared),(qe4/\∃h' d tk,∃vs:Ï,∃g,vs.Perm (es.toList.map (·.2))/\jS4)->(match r with
   | .ok (.ret v)=>wpAny ŝ A (match v with
    |Ä a=>do
     match (<-load a).data with
     |.seq n _=>pure n.toList
     |_=>qx6
    |_=>qx6) Q E c
   |.ok _=>False
   |.error e=>E e c):=by
  rintro r c ⟨rfl,h',d,tk,vs,g,str,k,hN,rfl⟩
  show Ê (YaI hN ?_);apply wpAny _ _ (pure vs.toArray.toList) Q E _;rw[IA];show ύ (h h' d tk vs str k (Nt (NL hN)))
 refine Eb (Qli (A:=A) (s:={ s with heap:=s.heap.push (lsO #[] 0) }) (R:=λr c=>qe4/\∃h' d tk,∃vs:Ï,∃g,vs.Perm (es.toList.map (·.2))/\jS4) x (Nr _ m) p z y up j (EB l) AZ 0 zYf hz λh' d tk vs g str k hN=>#[rfl,h',d,tk,vs,g,str,λb o e=>k b o kQ Sz,hN,rfl]) ?_ ?_
 ·intro f c q;cases f with
  |done f=>show fin _ _ q
  |again g=>show#[q.1,F6 q.2 λr i u=>fin r i u]
 ·intro e c q;show fin _ _ q
#print"-"
def QcM:∀(ks a:Á),ks.Nodup->(∀k∈ks,k∈a)->a.length=ks.length->Hy a:=by
 intro ks
 induction ks with
 |nil=>
  intro a _ _ h;rw[zj8]
 |cons k r d=>
  intro a nd c h;let hk:=c k NF;rw[Ei]at nd;refine(List.perm_cons_erase hk).trans (List.Perm.cons k (d (a.erase k) nd.2 (AQ x b) ?_))
  ·show(L3 (λz=>nd.1 (S5 z b))).mpr (c x (jz b))
  ·rw[IP hk,h];rfl
section
variable{prog:Program}{w:World}{A:Around}{E:Ô}{s:Shared}
def QkS{h:Heap}{a:Addr}{led:Bool}{es:xD}(h1:ElemsOf qki es.toList)(m:ks.Nodup)(l:es.size=ks.length)(j:∀k,k∈ks↔∃e∈es.toList,zB9)(p:vs.Perm (es.toList.map (·.2))):∃i,xsc/\Hy i:=by
 let b:∀v∈vs,∃x c,jab:=λv b=>by
  show Ż e f (p.mem_iff.mp b);let#[#[k,hk,_],_]:=h1 e f;let#[c,g]:=L7 hk;show#[k,c,g]
 refine#[vs.map strOf,strsAre_map vs b,QcM ks _ m xh1 ?_]
 ·let#[e,f,d]:=(j k).mp hk;show(uY c g L7 d,Ny.mpr #[e.2,p.mem_iff.mpr (Sy #[e,f,rfl]),SC g])
 ·rw[Nq,p.length_eq,Nq,Ea,l]
def QiT{t:SetTable}(b:xm0)(c:n<=1):kL:=λi j d a=>by
 rw[QbI b]at a;omega
def QiC(q:Ξ)(hS:qs3)(hz:ks.length<=sizeLine)
  (h:∀h' d tk vs,(∃l,StrsAre vs l/\Hy l)->jT3):ò qAf:=by
 let#[o,x,B,t,u,n,r,i,v,j,e,f,g,m,c]:=hS;refine Qgq q u n r j znf e (by rw[m];show hz) λh' d tk vs p=>h h' d tk vs (QkS (h:=s.heap) (a:=S) (led:=true) i g m c p)
 show Ϩ z
 ·rcases f with y|y
  ·show QiT j (Nt (ź jii))
  ·show ð z y
 ·show QiT j z
def sortedS'(v:Ξ)(hS:qs3)(hz:ks.length<64)
  (h:∀(D:Addr) h' d tk (vs:Ï) (i:Á) c,xsc->Hy i->lO i=true->P0->qP6->uM D=sO (zP0 c)->xz2 Q qz) :
  ò (call qh5 [Ä S]):=by
 refine qb4;refine Na (m:=qDe) (AU (Na (QiC (ν v) hS (by rw[D0];show Nt (N2 hz Ñ)) λn d tk vs str r l=>?_)));let#[i,st,pm]:=str;let g:vs.length<64:=by rw[YaA st,pm.length_eq];show hz
 show Ê (Ov ?_ (by rw[D0];show Nt (N2 g Ñ)));let a:(n.push yz).get? n.objs.size=sO yz:=Ű;show ĵ (N9 (Eu slot_list_sort zn3 entry_list_sort (list_sort_treeK (κ:=PyProof.Rows.strKind) strKind_oneLt a st.keysOf (λq p rest e=>keyKind_strs (by rw[<-e];show st)) g λf F C=>eO) qNd));let#[j,B,z,y]:=sorted_out_str st F C;let#[c,x]:=sortedHeap_at (out:=(arrOf f).map (·.2)) a;show Ϫ #[_,rfl,h n.objs.size _ d tk ((arrOf f).map (·.2)).toList j c B (z.trans pm) y (jy b o e) l ?_]
 ·let t:=Nr yz (r b o e);rw[sortedHeap_old (NK (NL (r b o e))) (NL t)];show t
 ·rw[Array.toArray_toList];show x
#print"-"
def le_of_lt{a b:Str}:xdh b a=false↔a.cps.toList<=b.cps.toList:=by
 rw[ltCps_eq,decide_eq_false_iff_not];show Ybk
def KE:∀(x:Str) (r:Á),risingS x r=true->∀z∈r,x.cps.toList<=z.cps.toList
 |x,[],_,z,hz=>by cases hz
 |x,y::r,h,z,hz=>by
  show jZ4 h';rw[N3,Bool.not_eq_true']at h';let a:=le_of_lt.mp h'.1
  rcases NJ.mp hz with rfl|hz
  ·show a
  ·show List.le_trans a (KE y r h'.2 z hz)
def YY(h:sortedS vP=true):lO r=true:=by
 cases r with
 |nil=>rfl
 |cons y r=>
  show jZ4 a;rw[N3]at a;show a.2
def str_eq{a b:Str}(h:a.cps.toList=b.cps.toList):a=b:=by
 let#[a]:=a;let#[b]:=b;congr 1;show Array.toList_inj.mp h
def Wm:∀(a b:Á),a.Perm b->bM->lO b=true->a=b
 |[],b,p,_,_=>(List.nil_perm.mp p).symm
 |x::r,[],p,_,_=>by cases List.perm_nil.mp p
 | x::r,y::t,p,d,c=>by
  let e:x=y:=by
   let g:y∈x::r:=p.mem_iff.mpr NF;let f:x∈y::t:=p.mem_iff.mp NF
   show T3 g z
   ·show z.symm
   ·show T3 f q
    ·show q
    ·show str_eq (List.le_antisymm (KE x r d y z) (KE y t c x q))
  subst e;rw[Wm r t (List.Perm.cons_inv p) (YY d) (YY c)]
open Classical in
abbrev srt(ks:Á):Á:=if h:jI0 then h.choose else[]
def srt_eq(p:Hy a)(h:bM):srt ks=a:=by
 let b:jI0:=#[a,p,h]
 unfold srt;rw[dif_pos b];show Wm _ _ (b.choose_spec.1.trans p.symm) b.choose_spec.2 h
#print"-St"
namespace Mi
open L2
set_option backward.eqns.deepRecursiveSplit false in
abbrev txW:Ã->Option zd2
 |[]=>sO []
 |Ü x::r=>(txW r).map (x::·)
 |_=>nO
@[simp]def Qk3(l:Á):txW qh=sO l:=by
 induction l with
 |nil=>rfl
 |cons x l a=>rw[Nw,txW,a];rfl
def Qpj{ws:Ã}{a:Á}(e:txW ws=sO a):ws=sW a:=by
 induction ws generalizing a with
 |nil=>cases e;rfl
 | cons w r b=>
  cases w with
  |str x=>
   show A4 t c e;rw[b c];rfl
  |_=>cases e
def Qpc{K:Nk}:∀{a:Á} {xs:Ø} {us:Ï},SD (zR a)->Ϝ->xsd:=by
 intro a
 induction a with
 |nil=>
  intro xs us r v;rw[Dg,Rws.nil_iff]at r;show(Bc r v,.nil)
 | cons x a e=>
  intro xs us r v;rw[Nw]at r;unfold Rws at r;show(pA y f b d r,Š b);subst b;cases v with
  |cons h t=>
   show(ņ c h,.cons x c (e d t))
def Qfo{K:Nk}{a:Á}{us:Ï}(h:xsd):ph gb/\C3 zo7 gb:=by
 induction h with
 |nil=>show#[.nil,by unfold Rws;rfl]
 |cons x c h b=>
  refine#[.cons (sQ c) b.1,?_];rw[Nw,Nw];unfold Rws;show#[_,_,rfl,by unfold Rw;rfl,b.2]
abbrev Qv5(ws:Ã)(h:MH):Þ:=match ws with
 |[a]=>(lsW h a).bind λc=>(txW c).bind λb=>if b.length<64 then sO (À ((St.srt b).map .str),h)else nO
 |_=>nO
abbrev Ju(ws:Ã)(h:MH):Þ:=match ws with
 |[a]=>(lsW h a).bind λc=>(txW c).bind λb=>if xm2/\qLb then sO (ģ,qN2)else nO
 |_=>nO
section
variable{X:Cx}
def Inv.drew(I:Ĩ a)(d:Drawn):Inv X a σ H { s with drawn:=d }:=#[I.ok,I.os,I.bare,I.base,I.loc,I.cell,I.free,I.freeC,I.pin,I.hok,I.len]
def QiL{X:Cx}{e:Expr}{me:ME}{wf:Ŭ}{f g:Str}{j r:Value}{U F m d:Pos}(hf:(∃T,j=jj7)\/∃T,j=.builtin T)(hg:Gl X f)(hm:X.mg f=nO)(hb:bootBuiltins f=sO j)(C:Gl X g)(B:X.mg g=nO)(D:bootBuiltins g=sO r)(Z:∃T,r=jj7)(he:zg3)(n:Ab)
  (o:f≠"__name__"/\(f==bY)=false/\g≠"__name__"/\(g==bY)=false)
  (k:∀(c:Ý) (s:Shared) (σ:L2.St) (H:Hp) (Q:VK) (R:Rn) (h h':MH) (a w:W) (v:V) (u:Value),L2.Inv X c σ H s->ó v->Ϧ->ń a v->wf [a] h=Ď w h'->After X.K R w h' Q ->
   ĩ (call r [u]) (λv t=>Pz (call j [v]) (EP X c σ Q) t)) :
  þ (.Call (.Name f U) [qq4] [] m) (mFn wf zYg):=by
 intro c s σ H Q I q;let#[R,p,h,w,h',S,st,e1,Y]:=q;show(o9 h2 e2 e3 e1,į a E e4 e5 e2);let#[#[bs,h3],e6,e7]:=ĸ e5;show(Bi e6 e7,ņ T Z)
 let W:∀{pos:Pos} {b:Expr} {Q:Ô} {s:Shared},ĩ (spliced qh9) (λM l=>Pz (call j M) Q l)->Jy b=false->ĩ (callWith pos j [] qh9 []) Q:=λh n=>by
  rcases hf with⟨T,rfl⟩|⟨T,rfl⟩
  ·show EA h jk1 je6
  ·show LM h jk1 je6
 refine DJ (Xn I hg hm hb (W ?_ rfl) o.1 o.2.1);rw[Zk (e:=qq4) rfl];refine Ol (DJ (Xn I C B D (EA ?_ jk1 je6) (ϳ o) o.2.2.2));rw[Zk n];refine Ol (ň (he c s σ H (zKc v H2 R2 R E a) I #[R,p,h,a,E,S,st,e4,λR2 H2 v x i y=>#[R2,x,i,y]]) u t q);let#[v,H1,I1,P,R2,L,i,y]:=q;refine OE ?_;show Eb (k c t σ H1 Q R2 E h' a w v u I1 P i y e3 λR3 H3 N J=>Y R3 H3 N (Ę L J)) (λv s2 z=>OE z) (AD z)
def UU{p1 p2 j i:Pos}(I:ı)(hg:Gl X "sorted")(hm:X.mg "sorted"=nO)(y:Gl X "set")(r:X.mg "set"=nO)(he:zg3)(hs:Ab:=by rfl) :
  þ (.Call (.Name "sorted" p1) [.Call (.Name "set" p2) [e] [] i] [] j) (mFn Ju zYg):=by
 refine QiL (ü û) hg hm Ybl y r boot_set û he hs Ñ λE B σ H1 Q R2 h1 h' a w v u I1 S h U e3 F=>?_;let#[ys,e8,e9]:=ĸ e3;show ē P z g e9;split at g
 ·show Α H g;let#[ad,xs,rfl,Y,C]:=h.lsAt U e8;cases S;rw[Qpj z]at C;let#[aa,rv,Z,hl]:=I1.list Y;let hS:=Qpc C rv;let t:=YaA hS;refine St.set_list xfc Z.isList (by rw[IA];show hS) (by rw[ND,t];apply P.length+1<4096;lia) (ś g1 n f k1);refine St.sortedS' (s:={ B with heap:=g1,toks:=n }) xfc f H.2 λD g2 d m N A c L J b3 k2 x hD=>?_;let#[v1,v2]:=Qfo (K:=X.K) (R:=R2) L;let l:B.heap.objs.size<=D:=Nh (Nt f.lt) x;let hp:=zlf I1 l;let eq:=St.srt_eq J b3;let#[R3,M,q,p]:=h.new (mo:=yk A) (o:=À (A.map V.str)) hp (Ľ R' x' #[_,rfl,(Qfo (K:=X.K) (R:=R') L).2])
  rw[eq]at F;refine#[Ä D,_,Inv.drew (I1.laid (t':=m) (λb o e=>k2 b o (k1 b o CT e)) l (fh c9  #[?_,N,c,v1,hD])) d,rfl,F R3 _ _ M q p];rw[Nq,J.length_eq,D0];show Nt (N2 H.2 Ñ)
 ·cases g
#print"-"
#print"-Mi"
namespace St
open AutoSeq1 (wpAny_loadPart')
def Qgs(l:Addr)(items:Ń)(n:Nat)(dct:BG)(i:fM) :
  Meets (Builtin.«enumerate.__new__» #[[zOa,Ä l],[]]) (λ_ R s=>qD=sO { cls:=jN,dict:=dct,data:=ja2 n,slots:=i } /\
   R (.ok (.ret (.ref jm1)))
    { s with heap:=(s.heap.push { cls:=zDg,data:=HW }).push { cls:=zOa,data:=jvd } }):=
 .of_wp λe w A R s h=>by
  show kj j;let#[a,h]:=h;let f:=sub_enumerate;let b:Heap.IsTuple (Shared.heap #[j,g,d,tk,os]) l items:=#[_,a,rfl,n,rfl]
  wp_walk using Dq a
  refine wpAny_stack_any λst=>Nn ?_;split
  ·rename_i c _ _ _ _ _;cases(c==Value.type "enumerate")
   ·show zB6
   ·show zB6
  ·show zB6
section
variable{prog:Program}{w:World}{A:Around}{E:Ô}{s:Shared}
def enumT(hL:RC)
  (h:∀h',qf0 h'->h'.IsTupleIter s.heap.objs.size l 0->P0->xL (ý j0) h') :
  ò (call (.type "enumerate") [Ä l]):=by
 let#[#[c,dct,i,f],g,e,n,hd]:=hL;simp only at e hd;subst e hd;refine callType_new F.called_enumerate Ñ (F.typeCall_enumerate_1 _) (F.newCall_enumerate_1 _) (λobj=>F.args_object_init_2 obj _) F.entry_enumerate_new (Qgs l items n dct f) (HJ g);let a:jm1=yO:=DY ..;apply _/\_;rw[a]
 let d:qf0 ((s.heap.push { cls:=zDg,data:=HW }).push { cls:=zOa,data:=jvd }):=by
  rw[<-a];show Ű
 show#[ϖ d,h _ d #[_,Ś zYf,rfl,rfl] λb o x=>Ś (Nr _ x)]
def QcD(hit:qDf)(e:RC)(d:cv=sO x)
  (g:∀h',h'.IsTupleIter it l (i+1)->zM9 h'->xL x h'):ò qk7:=by
 show(za3 a f,jsd c e a);simp only[E9,d];show ĵ (DA a hd Å (AU #[x,rfl,Nn (zb9 g #[_,qAb a,(Ybt ..).trans f,qDb])]))
def Qfb(f:Ξ)(hit:qDf)(h:RC)(g:cv=nO)
  (j:∀h' e,qFa->(∃o,uM e=sO o/\o.cls=.type "StopIteration")->E (ý e) { s with heap:=h' }):ò qk7:=by
 show(za3 c n,jsd d h c);simp only[E9,g];show(Ê (Ds (Na (DA c hd Å zbf))),jE2)
 first|rw[show xR from f]|rw[f]
 show Na (zt1 (wpAny_throw (j _ _ qt1 oM)))
def tit_at{h h':Heap}(x:h.IsTupleIter a t i)(e:zt7):h'.IsTupleIter a t i:=jCf
def Qoz{h h':Heap}(x:jic h a)(e:zt7):jic h' a:=jCf
def drawsT(f:Ξ)(it l:Addr)(b:l≠it)(items:Ń):Draws prog w A it [it,l] items.size (λi v=>cv=sO v) (λi h=>zR6 l/\jic h l) where
 live:=λ_ _ x=>let#[o,h,_]:=x.1;#[o,h]
 frame:=λ_ _ _ st hk=>#[tit_at st.1 λo e=>hk it Å o e,Qoz st.2 (zK1 l)]
 item:=λi s Q E d st g=>QcD st.1 st.2 (x:=jgd) (ν d) λm a c=>g _ m s.toks (ν d) #[a,st.2.extBut c.extBut b] c
 done:=λs Q E st j=>Qfb f st.1 st.2 Å j
#print"-"
#print"-St"
namespace L2
abbrev Ite(K:Nk)(a:Addr)(n:Nat):It:=
  #[λi H=>i<n/\jqg,
   λi H v c=>∃T x,v=Ä T/\H T=nO/\qmf/\jpa,
   λi H=>n<=i/\jqg]
def Qe8{K:Nk}(l e it:Addr)(n:Nat)(c:e≠it)(C:l≠e)(B:l≠it):Turn P w K qQ7 (Ite K l n) zgh e (λi h=>i<=n/\qx7/\zR6 l) where
 mem:=Ç
 obj:=λi h st b d=>by
  show jt3
 keep:=λi h h' st k=>by
  show(qQ8,#[m,jI1,St.tit_at h1 (zAa x)])
 item:=by
  intro X L hw hK hc i z s σ H E I hf st hg;show jy7;let#[_,S,U]:=st;let W:=jS5;refine W.item i s _ _ qb6 #[S,U,p] qx8;show jwi
  let af:jF9:=by
   show qf6
  let ah:=xh2;refine#[Ä T,_,jR8,rfl,#[T,x,rfl,ah,rfl,λys hy=>by rw[I.tuple_inj hy Y];show hx],qWj,Ó b d];show qu9
  ·obtain⟨o,Z,_⟩:jMh:=by
    show ju5
   show jE3
 done:=by
  intro X L hw hK hc i z s σ H E I hf st hg;show jy7;let#[aj,S,U]:=st;let W:=jS5;show qC3
  refine W.done s _ _ (by rw[aa];show#[S,U,p]) qs4
  show jt9
 self:=qi3
abbrev Qr9(K:Nk)(e:TA):TI:=λc H R=>e c H λd H1=>∃a b,d=TD/\SqT K H1 a b/\R (Ite K a b.length) H1
def Qk0{X:Cx}{i:ā}(E:tK)(D:bv)(F:zk9 v)(A:yt:=by rfl) :
  jX1 (Qr9 X.K v):=by
 show(jm6,qw w x);let#[z,rv,l,P]:=I1.tuple B;let f:qQ9:=let#[_,C,_]:=l;NL C
 refine St.enumT l λQ m hit hk=>Li m ?_;refine#[bG c,jBh,_,_,H1,rfl,qH9,Qe8 ad _ _ t.length (YbF _) xm3 (NK f),qFb,Ó b n,q]
 let g:qP8:=by
  show ju9
 show qo4
#print"-L2"
namespace Mi
open L2
abbrev ZO(ws:Ã):Ã:=ws.zipIdx.map λq=>Î [B5 q,q.1]
abbrev GL(ms:MA):MI:=λa h=>(ms a h).bind λp=>match p.1 with
 |[Î b]=>xa3
 |_=>nO
section
variable{K:Nk}{R:Rn}
def QeI(l:zS4)(r:ϕ):lK (Ite K a xs.length) (ZO ws) where
 go:=λi w p h H x d _ e=>by
  let c:=à e;show oI #[qDg,xs,qcj,rfl]
 yld:=λi w p h H x E e d _ m q=>by
  show(jE4,jOf);let n:=s xs (ZF (zxb d e) l);show(ð g1 n,jV1)
 stop:=λi p h H x d _ c=>by
  show oI #[jI2,xs,qcj,rfl]
#print"-"
section
variable{X:Cx}{tg a:Expr}{ms:MA}{p pos tpos:Pos}{elts:ā}{kk:Nat}
def QiB(s:tK)(r:bv)(t:za1)(q:yt:=by rfl):jV9 (GL ms):=
 WE (Qk0 s r t q) λx H C i=>by
  let#[R,c,h,items,n,A,o,st,e,k]:=i;show jMi
  ·show(jFa,#[ad,j,rfl,ZF b.sub hF,uU l b (QeI hF rr)])
  ·cases d
#print"-"
#print"-Mi"
namespace Dc
section
variable{prog:Program}{w:World}{A:Around}{E:Ô}{s:Shared}
def Qm0:typeLookup CI zIf=Hn:=by show bV
set_option maxHeartbeats 4000000 in
def keys_miss(i:gw=sO { cls:=Ī,dict:=nO,data:=.seq xs k,slots:=l })(n:Ξ)
  (h:∀h' tk,P0->Q nO { s with heap:=h',toks:=tk }):ò (getAttr? ħ zIf):=by
 show kj m;let j:∀c,(#[m,g,d,c,os]:Shared).TypeIs ħ "list":=λ_=>ϖ i
 let f1:=sub_AttributeError;let v:=IQ.lookup;let u:=IQ.bind ħ;let t:=am_list_getattr_none
 repeat (any_goals (first|assumption|show j _|((with_reducible apply ż (call (Value.builtin "list.__getattribute__") _ _));refine IV IQ (j _) am_entry_list_getattribute (F.args_list_getattribute_2 _ _) (meets_getattribute_miss_list a xs k l zIf _ Qm0 jL) #[i,n,ś h' c e f])|wp_step))
 let#[q,p,r]:=f.there;apply ż (getattributeRaised _ _ _ _ _ _ _)
 show mR
 show h _ _ f.keeps
#print"-"
def e_upd:entryFor table "dict.update.loop"=sO Builtin.«dict.update.loop»:=jEf
def p_upd:plainId "dict.update.loop"=true:=Cy
section
variable{prog:Program}{w:World}{K:Type}[DecidableEq K]{knd:xa4}{A:Around}{E:Ô}{s:Shared}
abbrev PairAt(knd:xa4)(h:Heap)(v:Value)(p:jg1):Prop:=∃a o n key,ϐ/\TB/\Mh/\o.data=.seq #[key,p.2,] n/\knd.is p.1 key=true
def PairAt.keep(x:PairAt knd h v p)(k:∀a o,ϐ->TB->uM a=sO o):PairAt knd h' v p:=by
 let#[a,o,n,key,rfl,e,d,c,b]:=x;show#[a,o,n,key,rfl,k a o rfl e,d,c,b]
abbrev mrg(a ps:jQ K):jQ K:=ps.foldl (λb p=>stored b p.1 p.2) a
def QkD(a:jQ K)(k:K)(v:Value):(stored a k v).length<=a.length+1:=by
 unfold stored;show zma
def Qtz{ps:jQ K}(hh:xR)(L:l≠I)(m:D≠I)(Q:D≠l)(r:RX):∀(k i:Nat) (s:Shared) (c:jQ K),xh3->xm4->qHa->RP ->
  (∀(j:Nat) (v:Value) (p:jg1),zdi->zbj->qLc/\v≠Ä D/\v≠Ä I)->s.heap.DictOf knd D c->qN9 ->
  (∀h' tk,h'.DictOf knd D (mrg c xm5)->(∀b o,b≠D->b≠I->TC)->qdf) ->
  jS8:=by
 show qmj L
 induction k with
 |zero=>
  intro i s c hk hi f d J hD Z P t;let M:xse:=Ð
  subst M;show qNe;refine(wc (qX0 (ę f d) g));refine(show jY7 from Na (CJ (Nn (P h' tk ?_ λb o _ hb e=>jD g (by simpa using hb)))));rw[Yas (Nv r)];show qgi
 | succ k ih=>
  intro i s c hk hi f d J hD Z P t;let h:xsf:=Ð
  show qNe;refine(wc (W.item i s _ _ h (ę f d) λv h' tk hv q g=>?_));let u:xz3:=by show Ng h (ī r)
  let#[pa,nD,nI]:=J i v ps[i] hv (Nl u);let#[a,o,n,key,rfl,h1,h2,Y,h4]:=pa;let N:a≠I:=λz=>nI xsg;let ab:a≠D:=λz=>nD xsg;let B:=g a o (ĝ N) h1;refine(show qad from Na zi9);show(Ê jTe,jug B h2,Ϫ υ);refine(show wpAny _ A.in1 (holding [key,zg4] (dictSet D key zg4)) _ _ _ from N9 ?_);let X:h'.DictOf knd D c:=qgi;refine wpAny_dictSet_pairs (s:={ s with heap:=h',toks:=tk }) (hsz:=SK Ů Z) h4 X (Ú h2 U C);show Ϫ #[DR p_upd _,ih (i+1) _ (stored c zg5 zg4) Í h (q.1.at λo e=>kh C I (N8 m)) (jGd q C) (λj v p e1 e2=>?_) U (by let:=QkD c zg5 zg4;lia) (λY F S H=>?_) _]
  ·let#[q1,q2,q3]:=J j v p e1 e2;refine#[q1.keep λb o eb e=>?_,q2,q3];rw[C.2 b λz=>q2 xdi];show jD g (by simpa using λz=>q3 xdi)
  ·refine P Y F ?_ λb o y x e=>H b o y x ?_
   ·rw[Ek u];show S
   ·rw[C.2 b y];show jD g (ĝ x)
def call_pairs{Q:Ô}(L:Ξ)(H:qD=jwa Z)(D:RX)(hz:zK9)
  (N:∀(j:Nat) (v:Value) (p:jg1),zdi->zbj->qLc)
  (h:∀h' tk,h'.DictOf knd s.heap.objs.size (mrg [] ps)->P0->gP) :
  ò qi5:=by
 show jsh d r;let c:(s.heap.push { cls:=xz,data:=kZ }).DictOf knd s.heap.objs.size []:=YbO s.heap;show jI3 g H f;refine#[c.typeIs,Ybe _ _,?_];show Ê (Na (Fe c.typeIs (show ż qw5 from Nn ?_)));apply ż jZ2;show(jE5 f,ĵ (keys_miss f (ν L) (Ú i y u)),Ŵ zd3,Ê (ql0 i y u f));let C:∀b o,Ϲ->(i.push { cls:=nN,data:=HW }).get? b=sO o:=jMj u;let J:(i.push { cls:=nN,data:=HW }).DictOf knd s.heap.objs.size []:=c.keep λb o e=>Ś xw5
 let t:s.heap.objs.size<i.objs.size:=by
  show xdj c u
 show Ϫ #[DR p_upd _,Qtz (knd:=knd) (l:=l) (items:=items) (ps:=ps) (ν L) (NK (N2 g t)) (NK t) (EB g) D zQh 0 _ [] rfl Ō Tv (zUi C H) (λj v p X U=>?_) J qLd (λP x I B=>?_) _]
 ·let q:=N j v p X U
  let lt:∀b,Pn->Ra:=λb S=>by
   let#[a,o,n,key,e,Y,_]:=q;show(ð S e,NL Y)
  refine#[q.keep λb o _ e=>C b o e,c7 z (lt _ z),ļ z];let:=lt _ z;change i.objs.size<s.heap.objs.size at this;show OY (Nt this) t
 ·refine#[rfl,h P x (ĝ I) λb o e=>B b o ?_ ?_ (C b o e)]
  ·show NK CT
  ·show NK (N2 CT t)
#print"-"
#print"-Dc"
namespace Mi
open L2
set_option backward.eqns.deepRecursiveSplit false in
abbrev prW:Ã->Option qF4
 |[]=>sO []
 |Î [k,v]::r=>(YH k).bind λy=>(prW r).map ((y,v)::·)
 |_=>nO
abbrev QgP(a ps:ą W):ą W:=ps.foldl (λb p=>GP b p.1 p.2) a
abbrev YJ(ws:Ã)(h:MH):Þ:=match ws with
 |[a]=>(lsW h a).bind λc=>(prW c).bind λb=>if b.length<=100000 then sO (ģ,h++[ϲ (QgP [] b)])else nO
 |_=>nO
def Qp1{K:Nk}:ŵ R (kW k) zk1:=by
 cases k with
 |inl i=>rfl
 |inr x=>rfl
section
variable{X:Cx}
def Qbn{K:Nk}:∀{a:ą W} {kx:ą V},kJ->a.map (·.1)=kx.map (·.1)
 |_,_,.nil=>rfl
 |_,_,ė h t=>by rw[Nw,Nw,Qbn t,h.1]
def QkL{K:Nk}{H:Hp}(E:Đ)(ok:∀a xs,il H->∃o n its,Bl g a=sO o/\Mh/\o.data=mM/\uo):∀{b:Ã} {ps:ą W} {xs:Ø} {us:Ï},prW b=sO ps->SD b->Ϝ ->
  ∃(kx:ą V) (vs:zO1),xh4/\jh9/\qQa/\∀(j:Nat) (u:Value) (p:Key×Value),xw4->xx3->Dc.PairAt zQ9 g u p:=by
 intro b
 induction b with
 |nil=>
  show jA1
 | cons c b J=>
  show zNd
  obtain⟨k,x,rfl⟩:∃k x,c=zw9:=by
   cases c with
   |tup l=>
    cases l with
    |nil=>cases e
    |cons k l=>
    cases l with
    |nil=>cases e
    |cons x l=>
    cases l with
    |nil=>show jqf
    |cons _ _=>cases e
   |_=>cases e
  show ē y S Q e;let#[qs,N,M]:=ό Q;show jqh M f F;cases v with
  |@cons _ u _ us hu tu=>
  let#[kx,vs,d1,Z,Y,U]:=J N F tu;show(Š f,pA a s I q2 f);let#[o,n,its,g1,g2,g3,L]:=ok a s (ZF E.sub I);show vZ z1 q D C q2;let#[t,d,rfl,B,A]:=Y6 L;let hk:=VE D S;subst hk;obtain rfl:MZ:=hu;refine#[(y,q)::kx,(y,d)::vs,ė (ϊ C) d1,ė (ϊ A) Z,AJ Y,λj u p m i=>?_];cases j with
  |zero=>
   let f1:Bv a=u:=ø m
   let f2:(y,d)=p:=ø i
   subst f1;show Ϗ f2 #[a,o,n,t,rfl,g1,g2,g3,QaR B]
  |succ j=>show U j u p (ĝ m) (ĝ i)
def QmT{K:Nk}:∀{ps a:ą W} {kx c:ą V},xh4->DicR K R a c->DicR K R (QgP a ps) (qn0 c):=by
 intro ps a kx c t d
 induction t generalizing a c with
 |nil=>show d
 |@cons p q _ _ h t e=>
  apply DicR K R (QgP (GP _ p.1 p.2) _) (qNf q);let:=QaK (k:=p.1) d h.2;show qJa
def Qo4{kx a:ą V}{vs c:zO1}(p:jh9)(d:KV a c):KV (qn0 a) (Dc.mrg c vs):=by
 induction p generalizing a c with
 |nil=>show d
 |@cons p q _ _ h t e=>
  apply KV (qNf p) (Dc.mrg (stored _ q.1 q.2) _);let:=KV.put d p.1 h.2;show qJa
def Qpd:∀(ps a:ą V),(ps.foldl qf7 a).length<=a.length+ps.length:=by
 intro ps
 induction ps with
 |nil=>
  intro a;simp
 |cons p ps c=>
  intro a;let e:=c (GH a p.1 p.2);let d:=X8 a p.1 p.2;rw[Yae,NP];lia
def G6(hc:ı):Ĵ Rk (Fs X.K YJ):=by
 intro B s σ H L us Q I r q;let#[R,h,ws,w,h',t,f,e,k]:=q;unfold YJ at e;split at e
 ·rename_i a;show zpa A y
  ·rename_i hz;cases y;show(ud v Z f,jO L q1 Y t Z e1,jJc U c x q1)
   let#[E,S,J,F,d3,d4]:=QkL (P:=X.prog) (w:=X.w) (g:=s.heap) t (λb zs q=>by
    let#[c,g1,#[o,g2,g3,n,g4],g5]:=jP q
    show#[o,n,c,g2,g3,g4,g1]) e3 Y rv
   ·let l1:=N7 J;show Ž l2 F;let#[#[oc,ab,ae,aa],m,x,D,C,d]:=x;dsimp only at D C d;subst D C d;refine Dc.call_pairs (knd:=Jh X.prog X.w) (ps:=S) (items:=c.toArray) fz x (ĝ d3) (by rw[ND,D0];lia) qd5 xa6;let hp:=PH;let#[R3,M,l,i]:=t.new (mo:=ϲ (QgP [] A)) (o:=.dK (E.foldl qf7 [])) hp (Ľ R' N #[_,rfl,Paired.mapP (QmT J .nil) λa b z=>qnj N])
    refine#[δ s,_,zm2 (fh (.dK _) #[?_,?_,_,Qo4 F .nil,dd]),rfl,ϱ R3 M l i]
    ·let:=Qpd E [];rw[D0];show Ϯ;lia
    ·show jYe
  ·cases y
 ·cases e
#print"-"
def QqQ{K:Nk}(X:SX)(G:ub b)(a:nJ=sO (sO (.str y t))):Glob K b x Pj:=
 #[Ü y,_,iB,yX,λ_=>Rw.str y]
def Qbd:∀(l:List (c×b)),(l.map (·.1)).zip (l.map (·.2))=l:=by
 intro l
 induction l with
 |nil=>
  show rfl
 |cons p l a=>
  rw[Nw,Nw,IR,a]
def WZ(f:qv):∀(o:MO),SF->thO f o=sO o
 |Ņ,p=>by apply(ths f ws).map MO.lst=_;rw[Zu f ws p];rfl
 |ϲ a,p=>by show xh5 (λvs=>MO.dic ((a.map (·.1)).zip vs))
 |Ŏ a,p=>by show xh5 (λvs=>MO.dct ((a.map (·.1)).zip vs))
 |jh1,p=>B0 p
@[simp]def Quq:Qaj σ h=sO (ģ,qN1):=Tm
abbrev KQ(a:W)(ws:Ã)(h:MH):Þ:=match ws with
 |[b,v]=>zs1 ((Kc c k).getD v,h)
 |_=>nO
section
variable{X:Cx}
def Qgu(hu:Ł):Qb3 X "dict.get" KQ:=by
 intro g s Z H x xs v us Q I u rv q;let#[R,h,a,ws,w,h',f,D,d,e,k]:=q;unfold KQ at e;split at e
 ·rename_i b dv;show(HZ E U S i P N,zT2 J U,vZ y z C B d);let#[uy,uz,rfl,t,r]:=Y6 rv;let#[_,L,kx,F,Y]:=f.dicAt D J;let M:=VE C P;subst M L;show Ck v u;refine Qn6 TV I (DGet.k (k:=i) F) t r (ś p s' j c)
  rcases pB i Y with z|⟨p,v',o,m,l⟩
  ·rw[z.2]at c;rw[z.1]at k;show#[_,H,j,c,ŀ f B]
  ·rw[m]at c;rw[o]at k;show#[_,H,j,c,ŀ f l]
 ·cases e
#print"-"
#print"-Mi"
namespace L2
abbrev ItE(K:Nk)(a:Addr)(n:Nat):It:=
  #[jAa,
   λi H v c=>∃T x,v=Ä T/\H T=nO/\qmf/\jM1,
   λi H=>n<=i/\jMe]
def Qcg{K:Nk}(l e it:Addr)(n:Nat)(c:e≠it)(C:l≠e)(B:l≠it):Turn P w K qQ7 (ItE K l n) zgh e (λi h=>i<=n/\qx7/\h.IsListIter it l i) where
 mem:=Ç
 obj:=λi h st b d=>by
  show jt3
 keep:=λi h h' st k=>by
  show qQ8;show#[m,jI1,h1.at (zAa x)]
 item:=by
  intro X L hw hK hc i z s σ H E I hf st hg;show jy8;let#[_,S,U]:=st;let W:=jS6;refine W.item i s _ _ qb6 qX1 qx8;show jwi
  let af:jF9:=by
   show qf6
  let ah:=xh2;refine#[Ä T,_,jR8,rfl,#[T,x,rfl,ah,rfl,λys hy=>by rw[I.list_inj hy Y];show hx],qWj,Ó b d];show qu9
  ·obtain⟨o,Z,_⟩:jMh:=by
    show ju5
   show jE3
 done:=by
  intro X L hw hK hc i z s σ H E I hf st hg;show jy8;let#[aj,S,U]:=st;let W:=jS6;show qC3
  refine W.done s _ _ (by rw[aa];show qX1) qs4
  show jt9
 self:=qi3
abbrev QnW(K:Nk)(e:TA):TI:=λc H R=>e c H λd H1=>∃a b,d=TD/\xwd/\R (ItE K a b.length) H1
def QhY{X:Cx}{i:ā}(E:tK)(D:bv)(F:zk9 v)(A:yt:=by rfl) :
  jX1 (QnW X.K v):=by
 show(jm6,qw w x);let#[z,rv,l,P]:=I1.list B;let f:qQ9:=let#[_,C,_]:=l.isList;NL C
 refine call_enumerate_list l.isList λQ m hit _ hk=>Li m ?_;refine#[bG c,jBh,_,_,H1,rfl,qH9,Qcg ad _ _ t.length (YbF _) xm3 (NK f),qFb,Ó b n,q]
 let g:qP8:=by
  show ju9
 show qo4
#print"-L2"
namespace Mi
open L2
abbrev Jf(ms:MA):MI:=λa h=>(ms a h).bind λp=>match p.1 with
 |[À b]=>xa3
 |_=>nO
section
variable{K:Nk}{R:Rn}
def QcX(l:eA)(r:ϕ):lK (ItE K a xs.length) (ZO ws) where
 go:=λi w p h H x d _ e=>by
  let c:=à e;show oI #[qDg,xs,zzf,rfl]
 yld:=λi w p h H x E e d _ m q=>by
  show(jE4,jOf);let n:=s xs qbg;show(ð g1 n,jV1)
 stop:=λi p h H x d _ c=>by
  show oI #[jI2,xs,zzf,rfl]
#print"-"
section
variable{X:Cx}{tg a:Expr}{ms:MA}{p pos tpos:Pos}{elts:ā}{kk:Nat}
def QfQ(s:tK)(r:bv)(t:za1)(q:yt:=by rfl):jV9 (Jf ms):=
 WE (QhY s r t q) λx H C i=>by
  let#[R,c,h,items,n,A,o,st,e,k]:=i;show jMi
  ·show(jFa,#[ad,j,rfl,Zs b.sub (ŧ xz4),uU l b (QcX (ŧ xz4) rr)])
  ·cases d
#print"-"
#print"-Mi"
namespace L2
open PySem.SeqAt
section
variable{prog:Program}{w:World}{A:Around}{E:Ô}{s:Shared}
def UZ(h:Q 0xFCA86420 { s with toks:=jg }):ò (pyHash .none):=by
 let a:[Value.none].any Value.onHeap=false:=rfl;show uV;rw[cRoomFor,if_neg (j7 a N5)];show Ϫ (Na qua);apply wpAny _ _ (BJ (sO (Value.builtin "NoneType.__hash__")==xm6)) Q E s;show(qsf,Ê qua);apply wpAny _ _ (callSpecialIfBoundUnlessNone? .none "__hash__" _>>=_) Q E s;show Ê (wpAny_callSpecialIfBoundUnlessNone?_slot ja3 Ip (Eu Ip ja3 F.entry_NoneType_hash (show Ň (do ret (<-mkInt 0xFCA86420)) from wpAny_ret_mkInt ?_) (F.args_NoneType_hash_1 _)));apply wpAny _ _ (BJ (decide (-(2:Int)^63<=0xFCA86420)&&decide ((0xFCA86420:Int)<2^63))) Q E _;show(fe,Nn h)
def QdT{stored:Ï}(c:∀v∈stored,∃k b,Pn/\zY k b)(h:jd7):ò (tableMayTell .none stored):=by
 unfold tableMayTell;split
 ·show Nn h
 ·refine Na (m:=eqIsQuiet 8 .none) υ;show ĵ (Ik _ (λrest r a=>a=s/\r=kz/\∀v∈rest,∃d b,Pn/\zY d b) _ ?_ ?_ _ _ (jlg c))
  ·rintro x rest r a ⟨rfl,rfl,e⟩
   let#[d,b,rfl,g]:=e x NF;show(Ê ((Qi prog w).quiet g ?_),ύ #[rfl,rfl,π v f e])
  ·rintro r a ⟨rfl,rfl,_⟩
   show Nn h
def U8 {es ep} {xs:yI} (hu:uf) (n:ů s d=sO o) (hd:bK) (I:es.toList=zui) (m:∀x∈xs,(Qi prog w).is s.heap x.1 x.2.1)
  (z:Q nO s):ò (dictFind d .none g):=by
 let a:∀e∈es,∃x∈xs,e=entryOfKey zD5 x:=λe t=>by
  let:e∈zui:=I▸YaJ.mpr t;let#[x,l,rfl]:=Ny.mp this;show#[x,l,rfl]
 let q:∀v∈(placesWithHash es.size (λi=>es[i]?.map (·.hash)) g).filterMap (λi=>es[i]?.map (·.key)),∃B b,Pn/\zY B b:=by
  intro v D;let#[i,_,H]:=IG.mp D;show A4 e u H;let#[x,l,rfl]:=a e (LF u);show#[x.1,x.2.1,rfl,m x l]
 let eq:∀{b:Addr} {k:Tr} {R:yi},zY k b->R false s->Ct (eqBool ym .none) R s:=λ{b k R} J r=>by
  let#[_,_,C,_,_,F,_]:=Qab (show IsT s.heap 8 k ym from J);show EqAt.tuple_none F hu prog w E R r
 refine N9 (Na (FY n hd ?_));dsimp only
 by_cases h:((Value.none::(placesWithHash es.size (λi=>es[i]?.map (·.hash)) g).filterMap (λi=>es[i]?.map (·.key))).all carriedByValue)=true
 ·rw[Ò h];show Ê (xz5 (λrest r j=>j=s/\r=kz))
  ·show qTc
   cases l:es[x]? with
   |none=>show fR
   |some e=>
    show qog
    ·show(jJd,Na (Ds (CJ ζ)))
    ·show fR
  ·show qy3
 ·rw [Õ h]
  let go:∀stored:Ï,wpAny ŝ A (do
    let mut hit:jT:=nO
    for i in placesWithHash es.size (λi=>es[i]?.map (·.hash)) g do
     if let sO e:=es[i]? then
      if e.hash==g then
       let c <-qo5
       let same <-eqBool e.key .none
       if(<-qo5) != c then unsupported "dict.changed-during-lookup"
       if same then
        if hit.isSome then unsupported "dict.find:order-among-keys-of-one-hash"
        rule "dict.find.hit"
        if stored.length<2 then return sO i
        hit:=sO i
       else
        rule "dict.find.same-hash-other-key"
        if false&&!(0<=g&&g<32)then unsupported "dict.find:asked-again-or-not-hangs-on-the-table"
    return hit) Q E s:=by
   intro stored;show Ê (xz5 (λrest r j=>j=s/\r=(nO,nO)))
   ·show qTc
    cases l:es[x]? with
    |none=>show fR
    | some e=>
     show qog
     ·show(jJd,Ê (Ds ?_))
      first|show By|skip
      first|show fR|show Na (CJ (Nn ζ))
     ·show fR
   ·show qy3
  by_cases f:(((placesWithHash es.size (λi=>es[i]?.map (·.hash)) g).filterMap (λi=>es[i]?.map (·.key)))==[Value.none])=true
  ·rw[Ò f];show(Ê υ,By,go _)
  ·rw[Õ f];show(Ê (QdT q ?_),By,go _)
#print"-"
def Wi(d:Addr)(hd:fu)(dflt:Value) :
  MeetsIn prog w (Builtin.«dict.get» #[[Ä d,.none,dflt],[]]) (λA R s=>qX2/\∃xs,qo1/\R qy0 { s with toks:=jg }):=
 .of_wp λA R s b=>by
  let#[hu,xs,e,h]:=b;let#[o,i,j,c,_,hD,f,a,g]:=e;apply Ň qHb;show(jth f a,Ϫ (show ż (Builtin.Dict.missed d .none>>=_) from Na (wpAny_missed_other hd (AU #[dflt,rfl,h]))))
#print"-L2"
namespace Mi
open L2
abbrev QaZ(a:W)(ws:Ã)(h:MH):Þ:=match ws with
 |[.non,v]=>jL6 v
 |_=>Qd7 a ws h
def Qc7(hu:Ł):Qb3 X "dict.get" QaZ:=by
 intro c s j H x d v p Q I i rv q;let#[R,h,a,l,w,J,f,g,b,e,k]:=q;unfold QaZ at e;split at e
 ·show(Mg U C M L,du E M,vZ y z B u b);let#[o,m,rfl,t,r]:=Y6 rv;let#[P,d,S,Y,N,lo,rr,dd]:=Kr I f E;show(oi g F,Ck v i,xsh D y B o t);show LQ Fb dd.typeIs Ll zY1 (Wi ŕ lo m) #[show wH by show zDc,d,dd,_,H,ų,r,ŀ f u]
 ·show Qis hu c s j H x d v p Q I i rv #[R,h,a,l,w,J,f,g,b,e,k]
#print"-Mi"
namespace Sb
open SetTable L2
noncomputable abbrev Ex(h h':Heap):Prop:=∀b o,yf->zxg
def Qia(e:Ex h h')(x:kl):h'.IsTuple a its:=by show BA o b r x #[o,e _ _ b,r]
inductive Sh where
 |i
 |s
 |t (l:List Sh)
 |l (e:Sh)
abbrev Wf:Nat->Sh->Tr->Prop
 |0,_,_=>False
 |_+1,.i,k=>∃n,k=.i n
 |_+1,.s,k=>∃x,k=.s x
 |n+1,.t l,k=>∃ks,k=.t ks/\qHc
 |n+1,.l e,k=>∃ks,k=.t ks/\∀x∈ks,jha
open PySem.W SeqAt
section
variable{A:Around}{s:Shared}
abbrev IsQ(h:Heap):jp3
 |0,_,_=>False
 |_+1,.i k,v=>∃t,v=.int k t
 |_+1,.s x,v=>xc5
 |n+1,.t ks,v=>∃a its,ϐ/\kl/\rj jbh
def QoJ{n:Nat}(k:Tr)(v:Value)(x:xz6):L2.IsT h n k v:=by
 induction n generalizing k v with
 |zero=>show C5 x
 | succ n c=>
  cases k with
  |i k=>show ß x
  |s y=>show x
  |t ks=>
   show(θ a b e p q x,#[a,b,e,p,KM c q])
def Yp(e:Ex h h'):∀{n:Nat} (k:Tr) (v:Value),xz6->IsQ h' n k v
 |0,_,_,x=>x.elim
 |n+1,.i k,v,x=>x
 |n+1,.s k,v,x=>x
 |n+1,.t ks,v,#[a,its,q,p,r]=>#[a,its,q,Qia e p,KM (λk v=>Yp e k v) r]
#print"-"
#print"-Sb"
namespace Us
open PySem.W
set_option autoImplicit false
abbrev JJ:Bool->Keyed->ö->Nat->Nat->Nat->İ d5:=sortPriv% PySem.Builtin.gallop
abbrev Yq:jN0:=sortPriv% PySem.Builtin.mergeLo
abbrev Yr:jN0:=sortPriv% PySem.Builtin.mergeHi
section
variable{prog:Program}{w:World}{A:Around}{E:Ô}{s:Shared}
abbrev T(prog:Program)(w:World)(A:Around)(E:Ô)(s:Shared){c:Type}(m:İ c)(P:c->Ş)(st:SortSt):Prop:=
 ∀tk,kasC ŝ A E m (λa b d=>(∃t,d={ s with toks:=t })/\P a b) st { s with toks:=tk }
section
variable{α β:Type}{P:zf}{P':α->Ş}{st:SortSt}{m:İ α}
def Ql{a:α}(h:P' a st):Ā (pure a) P':=λtk=>kasC_pure fN
def Qj{g:α->İ β}(h:Ā m (λa b=>T prog w A E s (g a) P b)):Ā (m>>=g) P:=λtk=>by
 refine kasC_bind (Eb (h tk) (jy r f d) (AD e));let#[#[t,rfl],c]:=d;show c t
def Vg{P:α->Ş}(h:Ā m P)(d:∀a b,P a b->P' a b):Ā m P':=
 λtk=>Eb (h tk) (λ_ _ c=>#[c.1,d _ _ c.2]) (AD e)
def Y5{P:SortSt->Ş}(h:P st st):T prog w A E s get P st:=λtk=>kasC_get fN
def JW{g:SortSt->SortSt}{P:PUnit->Ş}(h:P ⟨⟩ (g st)):Ā (modify g) P:=λtk=>kasC_modify fN
def QsG{a:SortSt}{P:PUnit->Ş}(h:P ⟨⟩ a):Ā (set a) P:=λtk=>by
 unfold kasC;rw[StateT.run_set];show ύ fN
def GC{x:String}{P:zwa}(h:P () st):T prog w A E s (liftM (rule x):StateT SortSt Sem Unit) P st:=λtk=>kasC_lift (Ds fN)
def QV{c:Prop}[xz7]{a:İ α}(h:c->Ā m P')(h':¬c->Ā a P'):Ā (if c then m else a) P':=by
 by_cases e:c
 ·rw[Ò e];show h e
 ·rw[Õ e];show h' e
abbrev St(Q I:zf)(r:ForInStep β)(a:SortSt):Prop:=match r with|jka=>Q c a|jhb=>I c a
def Qpz{a b:Nat}{g:zq8}{I:Nat->zf}(o:jv0)(p:qFc) :
  ∀(n i:Nat) (c:β) (st:SortSt),i+n=b->a<=i->xh6->Ā (forIn (List.range' i n 1) c g) P:=λn=>by
 induction n with
 |zero=>show λi c st e _ h=>Ql (p c st (e▸h))
 |succ n l=>
  intro i c st e f h;rw[YbD,IC];show Υ (Vg (o i c st f (e▸Yaa (IM n)) h) (Ú r d j));cases r with
  |done c=>show Ql j
  |yield c=>show l (i+1) c d ((IS i n).trans e) (OI f) j
def Qcd{a b:Nat}{g:zq8}(I:Nat->zf)(d:a<=b){c:β}(h:I a c st)(e:jv0)(f:qFc) :
  Ā qQb P:=by
 rw[Ya0,show([a:b]:Std.Legacy.Range).size=b-a by simp[Std.Legacy.Range.size]];show Qpz e f (b-a) a c st (E1 d) (NA a) h
def K1{a b:Nat}{g:zq8}(I:zf)(d:a<=b){c:β}(h:I c st)(e:∀i c st,a<=i->i<b->I c st->Ā (g i c) (St P I))(f:∀c st,I c st->P c st) :
  Ā qQb P:=Qcd (λ_=>I) d h e f
#print"-"
abbrev Cmp(prog:Program)(w:World)(A:Around)(s:Shared)(κ:SortKind)(M:AA):Prop:=
 ∀x y,M x->M y->∀(tk:Nat) (C:yi),(∀b t,C b { s with toks:=t })->wpAny ŝ A (keyLt' κ x.1 y.1) C j3 { s with toks:=tk }
variable{κ:SortKind}{M:AA}{st:SortSt}
def Qqf{x y:Keyed}{P:zc2->Ş}(e:xx)(hk:zg6=κ)(d:M x)(c:M y)(h:zMa):Ā (lt' x y) P:=by
 rw[lt'_eq];show ο Ht;refine Qj (m:=liftM (keyLt' xm7 x.1 y.1).attempt) λtk=>kasC_lift (Lx ?_);rw[hk];refine Eb (e x y d c tk _ λb t=>(?_:(∃a,({ s with toks:=t }:Shared)={ s with toks:=a })/\_)) (sV h) (zz7 h);show#[yX,Ql (h b)]
def Zv{xs:ö}{i:Nat}{P:Keyed->Ş}(hi:d6)(h:P xs[i] st):Ā (elem' xs i) P:=by
 rw[elem'_eq,getElem?_pos xs i hi];show Ql h
#print"-"
structure O(M:AA)(n:Nat)(xs:ö):Prop where
 n:xs.size=n
 all:∀x∈xs.toList,M x
section
variable{M:AA}{n m:Nat}{xs ys:ö}
def O.at(h:SL){i:Nat}(hi:d6):M xs[i]:=h.all _ Å
def O.push(h:SL){x:Keyed}(b:M x):O M (n+1) (xs.push x):=#[by rw[Array.size_push,h.n],λy a=>by
 rw[Le]at a
 show Λ a
 ·show lP a
 ·show Bp a b]
def O.app(h:SL)(k:O M m ys):O M (n+m) (xs++ys):=#[by rw[Ybs,h.n,k.n],λy a=>by
 rw[Array.toList_append]at a
 show(NI.mp a).elim (h.all y) (k.all y)]
def O.ext(h:SL){j:Nat}(i:Nat)(b:j<=n):O M (j-i) (xs.extract i j):=#[by rw[Array.size_extract,h.n,Yad b],λy a=>by
 rw[Array.toList_extract,List.extract_eq_take_drop]at a
 show lP (YaR (Fv a))]
def O.rev(h:SL):O M n xs.reverse:=#[by rw[Array.size_reverse,h.n],λy a=>lP (by rw[Array.toList_reverse]at a;show Iq.mp a)]
def O.perm(h:SL)(p:ys.Perm xs):O M n ys:=#[p.size_eq.trans h.n,λy a=>lP ((Array.perm_iff_toList_perm.mp p).mem_iff.mp a)]
def O.cast(h:SL)(e:n=m):O M m xs:=e▸h
def O.lay(f:zi0):∀(l:List Keyed) (k:Nat) (xs:ö),(∀x∈l,M x)->SL->O M n ((l.zipIdx k).foldl (zGg (f j)) xs):=λl=>by
 induction l with
 |nil=>show λ_ _ _ h=>h
 |cons p l d=>
  refine λk xs c h=>d (k+1) _ (Sa e c) #[(Array.size_setIfInBounds ..).trans h.n,Ó y b];rw[Ow]at b
  rcases List.mem_or_eq_of_mem_set b with b|rfl
  ·show lP b
  ·show c _ NF
#print"-"
def QcK(left:Bool)(key:Keyed)(arr:Array Keyed)(base n hint:Nat):JJ left key arr base n hint=(do
 let b (i:Nat):StateT SortSt Sem (Option Bool):=do
  let x <-elem' arr (base+i)
  if left then zv0 else return(<-zv1).map (!·)
 let mut lastofs:=0
 let mut ofs:=1
 let mut lo:=0
 let mut hi:=0
 let sO right <-b hint|return nO
 if right then
  let a:=n-hint
  for _ in [0:n] do
   if ofs >= a then break
   let sO more <-b (hint+ofs)|return nO
   if !more then break
   lastofs:=ofs
   ofs:=2*ofs+1
  lo:=hint+lastofs+1
  hi:=hint+min ofs a
 else
  let a:=hint+1
  for _ in [0:n] do
   if ofs >= a then break
   let sO found <-b (hint-ofs)|return nO
   if found then break
   lastofs:=ofs
   ofs:=2*ofs+1
  lo:=hint+1-min ofs a
  hi:=hint-lastofs
 for _ in [0:n] do
  if lo >= hi then break
  let m:=jFb
  let sO more <-b m|return nO
  if more then lo:=m+1 else hi:=m
 return sO hi):=rfl
abbrev Quu(left:Bool)(key:Keyed)(arr:ö)(base n lo hi:Nat):İ d5:=do
 let mut lo:=lo
 let mut hi:=hi
 for _ in [0:n] do
  if lo >= hi then break
  let m:=jFb
  let sO more <-(do
   let x <-elem' arr (base+m)
   if left then zv0 else return(<-zv1).map (!·))|return nO
  if more then lo:=m+1 else hi:=m
 return sO hi
section
variable{prog:Program}{w:World}{A:Around}{E:Ô}{s:Shared}{κ:SortKind}{M:AA}{st:SortSt}{left:Bool}{key:Keyed}{arr:ö}{N base n hint:Nat}(hc:xx)(hk:zg6=κ)(hkey:M key)(ha:O M N arr)
include hc hk hkey ha
def Qgg{i:Nat}{P:zc2->Ş}(hi:i<N)(h:zMa) :
  T prog w A E s (do
   let x <-elem' arr i
   if left then zv0 else return(<-zv1).map (!·)) P st:=by
 let hi:=ha.n.symm▸hi;show ο (Zv hi ?_);cases left with
 |true=>show Qqf hc hk xsj hkey h
 |false=>show zW (Qqf hc hk hkey xsj λb=>Ql (h (!b)))
variable{P:jT->Ş}(hn:base+n<=N)(h:∀k,k<=n->P xWi st)
include hn h
def Qg3{lo hi:Nat}(e:hi<=n):Ā (Quu left key arr base n lo hi) P:=by
 show Υ (K1 (λc d=>d=st/\∃l r,xh7 n) Ō #[rfl,lo,hi,rfl,e] ?_ ?_)
 ·rintro i c _ _ _ ⟨rfl,l,r,rfl,a⟩
  dsimp only;refine QV (ϻ (Ql (h r a))) λc=>Qj (oJ (Ng (NW (Ng ?_ a) base) hn))
  ·lia
  ·cases b with
   |true=>show Ql #[rfl,_,r,rfl,a]
   |false=>show Ql #[rfl,l,_,rfl,Ð]
 ·rintro c _ ⟨rfl,l,r,rfl,a⟩
  show Ql (h r a)
def Xy(d:hint<n):Ā (JJ left key arr base n hint) P:=by
 rw[QcK];dsimp only;show ο (oJ (Ng (NW d _) hn));cases b with
 | true=>
  dsimp only;show ο jUj
  ·show qq6;refine QV (λ_=>Ql ?_) λc=>Qj (oJ (Ng (NW (Nat.add_lt_of_lt_sub' (D3.mp c)) base) hn))
   ·show jTh
   ·cases b with
    |true=>show qy4
    |false=>show Ql (Qg3 hc hk hkey ha hn h (lo:=hint+l+1) (hi:=hint+min o xa7) qb7)
  ·show xe0
   show jTh
 | false=>
  show zw8;let fin:∀l o,Ā (Quu left key arr base n (hint+1-min o (hint+1)) (hint-l)) P:=λl o=>Qg3 hc hk hkey ha hn h (Nh CO SO);show ο jUj
  ·show qq6;refine QV (ϻ xz8) λc=>Qj (oJ (Ng (NW (zjh d) base) hn));cases b with
   |false=>show qy4
   |true=>show Ql xz8
  ·show xe0
   show fin l o
#print"-"
set_option autoImplicit false
abbrev QgM(g:Nat)(st:SortSt):SortSt:=SortSt.mk' xm7 xt0 xa8 g (failedOf st)
def Qas(a b:ö):Yq a b=(do
 qDh
 let d:=eU
 let done (out:ö) (ia ib:Nat):=out++bw++bx
 let c (out:ö) (ia ib:Nat):=out++bx++bw
 let mut out:ö:=#[<-elem' b 0,]
 let mut ia:=0
 let mut ib:=1
 if ze4 then return S3
 if zaj then return zc8
 let mut minGallop:=jP5
 for _ in [0:d] do
  let mut acount:=0
  let mut bcount:=0
  for _ in [0:d] do
   let sO e <-lt' zJe zJf|return S3
   if e then
    out:=jqi;ib:=ib+1;bcount:=bcount+1;acount:=0
    if ze4 then return S3
    if qQd then break
   else
    out:=jqj;ia:=ia+1;acount:=acount+1;bcount:=0
    if zaj then return zc8
    if qQe then break
  zI2
  minGallop:=zc9
  for _ in [0:d] do
   if xz9 then minGallop:=xza
   RD
   let sO k <-JJ false zJe a ia (a.size-ia) 0|return S3
   acount:=k
   if k>0 then
    out:=out++qFd;ia:=ia+k
    if zaj then return zc8
    if ia==a.size then return S3
   out:=jqi;ib:=ib+1
   if ze4 then return S3
   let sO k <-JJ true zJf b ib (b.size-ib) 0|return S3
   bcount:=k
   if k>0 then
    out:=out++qFe;ib:=ib+k
    if ze4 then return S3
   out:=jqj;ia:=ia+1
   if zaj then return zc8
   if qTd then break
  minGallop:=zc9
  RD
 zN):=rfl
def Qai(a b:ö):Yr a b=(do
 qDi
 let d:=eU
 let done (out:ö) (na nb:Nat):=xh8++xh9++out.reverse
 let c (out:ö) (na nb:Nat):=xh9++xh8++out.reverse
 let mut na:=sT
 let mut nb:=b.size
 let mut out:ö:=#[<-elem' a na,]
 if na==0 then return S4
 if nb==1 then return zca
 let mut minGallop:=jP5
 for _ in [0:d] do
  let mut acount:=0
  let mut bcount:=0
  for _ in [0:d] do
   let sO f <-lt' jN1 jN2|return S4
   if f then
    na:=na-1;out:=qHd;acount:=acount+1;bcount:=0
    if na==0 then return S4
    if qQe then break
   else
    nb:=nb-1;out:=qHe;bcount:=bcount+1;acount:=0
    if nb==1 then return zca
    if qQd then break
  zI2
  minGallop:=zc9
  for _ in [0:d] do
   if xz9 then minGallop:=xza
   RD
   let sO e <-JJ false jN1 a 0 na zf8|return S4
   let k:=na-e
   acount:=k
   if k>0 then
    out:=out++(a.extract e na).reverse;na:=e
    if na==0 then return S4
   nb:=nb-1;out:=qHe
   if nb==1 then return zca
   let sO e <-JJ true jN2 b 0 nb zU2|return S4
   let k:=nb-e
   bcount:=k
   if k>0 then
    out:=out++(b.extract e nb).reverse;nb:=e
    if nb==1 then return zca
    if nb==0 then return S4
   na:=na-1;out:=qHd
   if na==0 then return S4
   if qTd then break
  minGallop:=zc9
  RD
 zN):=rfl
def ZE{f:Type}{c:Prop}[xz7]{a b e d:f}(h1:a=e)(h2:b=d):ite c a b=ite c e d:=by rw[h1,h2]
def QI{a b:Type}{m:İ a}{g g':a->İ b}(h:∀x,g x=g' x):xa9:=by rw[funext h]
def JX{a b:Type}{m:İ (Option a)}{g g':Δ a->İ b}(h0:g nO=g' nO)(h1:∀x,g zjd=g' zjd):xa9:=QI λx=>by show(Ω x h0,h1 _)
noncomputable abbrev MS(X Y Z a:Type):=Option np×X×Y×Z×a
abbrev Qnh{X Y Z:Type}(tot:Nat)(inn:jwj)(a:jz2)(_:Nat)(s:zVf):İ (bC (MS X Y Z Nat)):=do
 let t <-forIn [0:tot] ((nO,s.2.1,Ŋ,ϛ,0,0):ql9) (inn je7)
 match t.1 with
 |è r=>pure (Ĭ (sO r,t.2.1,ϳ t,pw t,je7))
 | none=>do
  zI2
  let u <-forIn [0:tot] ((nO,t.2.1,ϳ t,pw t,je7+1,t.2.2.2.2.1,t.2.2.2.2.2):qla) a
  match u.1 with
  |è r=>pure (Ĭ (sO r,u.2.1,ϳ u,pw u,zYh))
  |none=>do
   modify (QgM (zYh+1))
   pure (.yield (nO,u.2.1,ϳ u,pw u,zYh+1))
noncomputable abbrev InS:=qFf zE1
noncomputable abbrev GaS:=qFf zv
noncomputable abbrev HnS:=qFg zE1
noncomputable abbrev HgS:=qFg zv
section
variable(a b:ö)
abbrev QrW(d:Nat)(_:Nat)(s:InS):İ (ForInStep InS):=do
 let y <-elem' b ϛ
 let x <-elem' a Ŋ
 match <-lt' y x with
 | è c=>
  if BY then do
   let y <-elem' b ϛ
   if(ϛ+1==b.size)=true then pure (Ĭ (sO (cx y++jEh++Cu b (ϛ+1)),cx y,Ŋ,ϛ+1,0,S9+1))
   else if S9+1 >= d then pure (Ĭ jB4)
   else pure (.yield jB4)
  else do
   let x <-elem' a Ŋ
   if(Ŋ+1+1==a.size)=true then pure (Ĭ (sO (cx x++jEi++Cu a (Ŋ+1)),cx x,Ŋ+1,ϛ,Ax+1,0))
   else if Ax+1 >= d then pure (Ĭ jB5)
   else pure (.yield jB5)
 |_=>pure (Ĭ (sO (s.2.1++jEh++jEi),s.2.1,Ŋ,ϛ,Ax,S9))
abbrev Qrd(out:ö)(c d f ac e:Nat):İ tV:=do
 let x <-Ah a c
 if(c+1+1==a.size)=true then pure (Ĭ (sO (Aa x++gC++Cu a (c+1)),Aa x,c+1,d,f,ac,e))
 else if qq5=true then pure (Ĭ jCg)
 else pure (.yield jCg)
abbrev QqU(out:ö)(d c e ac f:Nat):İ tV:=do
 let y <-Ah b c
 if(c+1==b.size)=true then pure jSb
 else do
  let x <-Ah a d
  match <-JJ true x b (c+1) (b.size-(c+1)) 0 with
  | è k=>
   if k>0 then
    if(c+1+k==b.size)=true then pure (Ĭ (sO (Aa y++zI4++Cu a d++Cu b jhc),Aa y++zI4,d,c+1+k,e,ac,k))
    else Qrd a b (Aa y++zI4) d jhc e ac k
   else Qrd a b za4 d (c+1) e ac k
  |_=>pure jSb
abbrev Qrh(out:ö)(c d e ac f:Nat):İ tV:=do
 xha
 let y <-Ah b d
 match <-JJ false y a c (pE c) 0 with
 | è k=>
  if k>0 then
   if(c+k+1==a.size)=true then pure (Ĭ (sO (Rb++gC++jL7),Rb,c+k,d,e,k,f))
   else if(c+k==a.size)=true then pure (Ĭ (sO (Rb++jL7++gC),Rb,c+k,d,e,k,f))
   else QqU a b (out++a.extract c (c+k)) (c+k) d e k f
  else QqU a b out c d e k f
 |_=>pure (Ĭ (sO (out++Cu a c++gC),out,c,d,e,ac,f))
abbrev Qud(_:Nat)(s:GaS):İ tV:=
 if Ax>1 then Qrh a b s.2.1 Ŋ ϛ (Ax-1) eV eW else Qrh a b s.2.1 Ŋ ϛ Ax eV eW
#print"-"
section
variable(a b:ö)
abbrev hD(out:ö)(d c:Nat):ö:=xhb a d b c
abbrev hF(out:ö)(d c:Nat):ö:=xhb b c a d
abbrev Qtu(d:Nat)(_:Nat)(s:HnS):İ (ForInStep HnS):=do
 let y <-jr0
 let x <-Ah a jbi
 match <-lt' y x with
 | è c=>
  if BY then do
   let x <-Ah a jbi
   if(jcg==0)=true then pure (Ĭ (sO (hD a b (s.2.2.2.1.push x) jbi Ŋ),jcg,Ŋ,b5 x,Ax+1,0))
   else if Ax+1 >= d then pure (Ĭ jBi)
   else pure (.yield jBi)
  else do
   let y <-jr0
   if(Ŋ-1==1)=true then pure (Ĭ (sO (hF a b (s.2.2.2.1.push y) s.2.1 (Ŋ-1)),s.2.1,Ŋ-1,b5 y,0,S9+1))
   else if S9+1 >= d then pure (Ĭ jza)
   else pure (.yield jza)
 |_=>pure (Ĭ (sO (hD a b ϛ s.2.1 Ŋ),s.2.1,Ŋ,ϛ,Ax,S9))
abbrev Qrb(c d:Nat)(out:ö)(f ac e:Nat):İ tW:=do
 let x <-Ah a (c-1)
 if(c-1==0)=true then pure (Ĭ (sO (hD a b (out.push x) (c-1) d),c-1,d,Aa x,f,ac,e))
 else if qq5=true then pure (Ĭ jCh)
 else pure (.yield jCh)
abbrev Qq6(d c:Nat)(out:ö)(e ac f:Nat):İ tW:=do
 let y <-Ah b (c-1)
 if(c-1==1)=true then pure (Ĭ (sO (hF a b za4 d (c-1)),d,c-1,Aa y,e,ac,f))
 else do
  let x <-Ah a (d-1)
  match <-JJ true x b 0 (c-1) (c-1-1)with
  | è k=>
   if c-1-k>0 then
    if(k==1)=true then pure (Ĭ (sO (hF a b zt8 d k),d,k,Aa y++zzb,e,ac,c-1-k))
    else if jKc then pure (Ĭ (sO (hD a b zt8 d k),d,k,Aa y++zzb,e,ac,c-1-k))
    else Qrb a b d k zt8 e ac (c-1-k)
   else Qrb a b d (c-1) za4 e ac (c-1-k)
  |_=>pure (Ĭ (sO (hD a b za4 d (c-1)),d,c-1,Aa y,e,ac,f))
abbrev QqX(c d:Nat)(out:ö)(e ac f:Nat):İ tW:=do
 xha
 let y <-Ah b (d-1)
 match <-JJ false y a 0 c (c-1)with
 | è k=>
  if c-k>0 then
   if jKc then pure (Ĭ (sO (hD a b jP6 k d),k,d,out++qm5,e,c-k,f))
   else Qq6 a b k d jP6 e (c-k) f
  else Qq6 a b c d out e (c-k) f
 |_=>pure (Ĭ (sO (hD a b out c d),c,d,out,e,ac,f))
abbrev Qt1(_:Nat)(s:HgS):İ tW:=
 if Ax>1 then QqX a b s.2.1 Ŋ ϛ (Ax-1) eV eW else QqX a b s.2.1 Ŋ ϛ Ax eV eW
#print"-"
section
variable(a b:ö)
local macro_rules|`(tactic|walk_at"mrg")=>`(tactic|(show zxe))
local macro_rules|`(tactic|walk_at"mrh")=>`(tactic|(
 dsimp only;refine congrArg zgi (funext λ_=>congrArg zgi (funext λy=>congrArg xzc (congrArg xzc (congrArg zgi (funext λst=>qm6)))))
 ·refine congrArg mU (funext λ_=>funext (ļ s));refine congr m9 (fL t)
  ·show jI4
  ·obtain⟨_|r,t⟩:=t
   ·refine congrArg zgi (funext λ_=>congr m9 (fL u))
    ·show jI4
    ·show zX1 u
   ·rfl
 ·funext t
  show zX1 t))
set_option maxRecDepth 10000 in
set_option maxHeartbeats 400000 in
def Qcz:Yq a b=(do
 qDh
 let y <-elem' b 0
 if(1==b.size)=true then pure (#[y,]++qTe++qTf)
 else if(0+1==a.size)=true then pure (#[y,]++qTf++qTe)
 else do
  let st <-get
  let t <-forIn [0:eU] ((nO,#[y,],0,1,zYi):MS np Nat Nat Nat) (Qnh zPg (QrW a b) (Qud a b))
  match t.1 with
  |è r=>HF
  |none=>zN):=by
 rw[Qas];unfold Qnh Qud Qrh QqU Qrd QrW
 walk_at"mrh"
set_option maxRecDepth 10000 in
set_option maxHeartbeats 400000 in
def QcS:Yr a b=(do
 qDi
 let x <-Ah a zd4
 if(sT==0)=true then pure (hD a b #[x,] zd4 b.size)
 else if(b.size==1)=true then pure (hF a b #[x,] zd4 b.size)
 else do
  let st <-get
  let t <-forIn [0:eU] ((nO,sT,b.size,#[x,],zYi):MS Nat Nat np Nat) (Qnh zPg (Qtu a b) (Qt1 a b))
  match t.1 with
  |è r=>HF
  |none=>zN):=by
 rw[Qai];unfold Qnh Qt1 QqX Qq6 Qrb Qtu hD hF
 walk_at"mrh"
#print"-"
set_option autoImplicit false
abbrev Sg(st a:SortSt):Prop:=∃g,a=QgM g st
def Sg.refl(st:SortSt):Sg st st:=#[zYi,rfl]
def Sg.kind{st a:SortSt}(h:Sg st a):kindOf a=zg6:=by show ņ g h;rfl
def Sg.set{st a:SortSt}(h:Sg st a)(g:Nat):Sg st (QgM g a):=by show(ņ b h,p8 g)
section
variable{X Y Z τ:Type}(L:qTg)(Rr:ö->Prop)
abbrev Yl(n:Nat)(t:xzb):Prop:=t.1=nO/\L n t.2.1 (ϳ t) (pw t)
abbrev Sl(n:Nat)(t:xzb):Prop:=(∃r,t.1=sO r/\Rr r)\/zi1
abbrev Rs(n:Nat)(st0:SortSt)(r:ForInStep (MS X Y Z τ))(a:SortSt):Prop:=Sg st0 a/\match r with|jka=>Sl L Rr n c|jhb=>Yl L n c
#print"-"
section
variable{prog:Program}{w:World}{A:Around}{E:Ô}{s:Shared}{κ:SortKind}{M:AA}{a b:ö}{st st0:SortSt}
section
variable{X Y Z:Type}{L:qTg}{Rr:ö->Prop}{tot:Nat}{inn:jwj}{ga:jz2}
 (h1:∀mg i n t st,SG->zi1->Ā (inn mg i t) (Rs L Rr (n+1) st0))
 (h2:∀i n t st,SG->zi1->Ā (ga i t) (Rs L Rr n st0))
 (mon:∀{m n x y z},n<=m->L m x y z->L n x y z)
include h1 h2 mon
def Qsy{i n:Nat}{t:zVf}(p:0<tot)(f:SG)(h:zi1) :
  Ā (Qnh tot inn ga i t) (λr d=>Hf/\match r with|jka=>qQf|jhb=>xab):=by
 let#[_,x,y,z,mg]:=t;show cn h;show Υ (Vg (P:=jL8) (Qcd (λk c d=>Hf/\Yl L (n+k) c) Ō #[f,rfl,h] ?_ ?_) ?_)
 ·show zN2 d (h1 mg k _ c d f hI)
  rintro(j|j) g ⟨f,q⟩
  show Ħ #[f,q.imp_right (jw q #[q.1,mon (DH Ů) q.2])]
  show Ħ #[f,q]
 ·rintro c d ⟨f,q⟩
  show#[f,ô #[q.1,mon (Es p n) q.2]]
 ·rintro⟨S,N,I,F,C,v⟩ d ⟨f,⟨r,e,q⟩|⟨e,q⟩⟩
  show qs6
  ·cases e;show Υ (GC (Qj (Vg (P:=jL8) (K1 (λc d=>Hf/\xab) Ō #[f,rfl,q] ?_ λc g q=>#[q.1,.inr q.2]) ?_)))
   ·show zN2 g (h2 k _ c g f hI)
    rintro(j|j) l q
    ·show q
    ·show q
   ·rintro⟨Q,J,H,D,o,B,u⟩ g ⟨f,⟨r,e,q⟩|⟨e,q⟩⟩
    show qs6
    ·cases e;show C7 (JW (Ql #[f.set _,rfl,q]))
def Qe5{c:zVf}(j:0<tot)(f:SG)(h:Yl L 0 c)(no:∀x y z,¬L tot x y z){P:ö->Ş}(l:∀r d,Hf->Rr r->P r d) :
  T prog w A E s (do
   let t <-forIn [0:tot] c (Qnh tot inn ga)
   match t.1 with
   |è r=>HF
   |none=>zN) P st:=by
 show Υ (Vg (P:=λc d=>Hf/\qQf) (Qcd (λk c d=>Hf/\Yl L k c) Ō (ę f h) ?_ λc d q=>(no _ _ _ q.2.2).elim) ?_)
 ·show zN2 d (Qsy h1 h2 mon j f hI)
  rintro(o|o) g q
  ·show q
  ·show q
 ·rintro⟨u,p⟩ d ⟨f,r,e,q⟩
  cases e;show Ql (l r d f q)
#print"-"
def Yc{i n:Nat}(h:¬(i==n)=true):i≠n:=λe=>h (by rw[e,beq_self_eq_true])
def XF{i n:Nat}(h:i<n)(e:¬(i+1==n)=true):i+1<n:=DL h zk6
abbrev Lo(M:AA)(a b:ö)(n:Nat)(out:ö)(d c:Nat):Prop:=n<=d+c/\O M (d+c) out/\d+1<a.size/\c<b.size
def q4{i j n m:Nat}(h1:i<=n)(h2:j<=m):i+j+(n-i)+(m-j)=n+m:=by
 rw[Dk i j,E1 h1,EG,E1 h2]
def q2{k i n c:Nat}(hk:k<=i)(h1:i<=n):n-i+c+(i-k)=n-k+c:=by
 rw[Dk,Yau h1 hk]
def q3{k i n c:Nat}(hk:k<=i)(h1:i<=n):c+(n-i)+(i-k)=c+(n-k):=by
 rw[EG,Yau h1 hk]
noncomputable abbrev Ro(M:AA)(a b r:ö):Prop:=O M zPg r
variable(hc:xx)(hk:xm8)(ha:zia a)(hb:zia b)
section
variable{out:ö}{ia ib:Nat}
include ha hb
def YI(o:yU)(h1:ia<=a.size)(h2:ib<=b.size):Ro M a b (out++bw++bx):=
 ((o.app qDj).app qE0).cast (q4 h1 h2)
def Ur(o:yU)(h1:ia<=a.size)(h2:ib<=b.size):Ro M a b (out++bx++bw):=
 ((o.app qE0).app qDj).cast ((Dk ..).trans (q4 h1 h2))
omit hb in
def Qu5(o:yU)(h:ia<a.size):O M (ia+1+ib) (out.push a[ia]):=(o.push xzd).cast qJb
omit hb in
def Qsb(o:yU)(k:Nat)(h:xt3):O M (ia+k+ib) (out++qFd):=(o.app (ha.ext ia h)).cast Í
omit ha in
def QrO(o:yU)(k:Nat)(h:ib+k<=b.size):O M (ia+xt1) (out++qFe):=(o.app (hb.ext ib h)).cast Í
include hc hk
def QpM(p i n:Nat)(t:InS)(st:SortSt)(f:SG)(h:Yl zLc n t) :
  Ā (QrW a b p i t) (nq zLc (n+1)):=by
 let#[_,out,ia,ib,ac,q]:=t;let#[rfl,m,o,l,c]:=h;let g:=EU l;show ο (vl c (qjd g f c));cases lt with
 |true=>
  dsimp only;let d:qAg:=o.push xze;show C7 (C8 c (HS (Τ #[f,ß #[_,rfl,YI ha hb d jj9 c]]) (Τ #[f,ô #[rfl,DH m,d,l,XF c e]]) #[f,rfl,DH m,d,l,XF c e]))
 |false=>
  show zw8;let d:=Qu5 ha o g;let j:n+1<=ia+1+ib:=Nh (DH m) (Nv qJb);show C7 (C8 g (HS (Τ #[f,ß (zMb g c)]) (Τ #[f,ô #[rfl,j,d,XF l e,c]]) #[f,rfl,j,d,XF l e,c]))
variable{mg ac bc n:Nat}(hg:SG)
include hg
omit hc hk in
def QiV(g:jhd)(o:yU)(h1:zYj)(h2:je8) :
  Ā (Qrd a b out ia ib mg ac bc) zu0:=by
 let f:=EU h1;let d:=Qu5 ha o f;let c:n<=ia+1+ib:=Nh g (NX iW _);show C7 (C8 f (HS (Τ #[hg,ß (zMb f h2)]) (Τ #[hg,ô #[rfl,c,d,XF h1 e,h2]]) #[hg,rfl,c,d,XF h1 e,h2]))
def Qje(i:jhd)(o:yU)(h1:zYj)(h2:je8) :
  Ā (QqU a b out ia ib mg ac bc) zu0:=by
 let d:=EU h1;let f:qAg:=o.push xzf;show Υ (C8 h2 (QV (pM (jFc f h2)) λe=>Qj (Zv d (Qj (Xy hc bD (ha.at d) hb (Nv (E1 h2)) (AQ k g) (OJ xzg))))));let c:ib+1+k<=b.size:=YaC h2 g;refine QV i3 λ_=>QiV ha hb hg (OI i) f h1 xzg;let h:=QrO hb f k c;show QV (pM (jFc h c)) λj=>QiV ha hb hg Í h h1 (DL c (Yc j))
def QiO(h:jhd)(o:yU)(h1:zYj)(h2:je8) :
  Ā (Qrh a b out ia ib mg ac bc) zu0:=by
 let g:=EU h1;let hg:=hg.set mg;show ο (JW (Qj (vl h2 (Qj (Xy hc bD xzf ha (Nv (E1 jj9)) (AQ k f) (OJ g))))));let c:xt3:=YaC jj9 f;refine QV i3 λ_=>Qje hc hk ha hb hg h o h1 h2;let d:=Qsb ha o k c;show QV (Τ #[hg,ß (zMb c h2)]) λe=>QV (Τ #[hg,ß #[_,rfl,YI ha hb d c (Nt h2)]]) λi=>Qje hc hk ha hb hg Í d (XF (DL c (Yc i)) e) h2
#print"-"
include hc hk ha hb in
def Qep{P:ö->Ş}(h1:0<a.size)(h2:0<b.size)(h:qt6):T prog w A E s (Yq a b) P st0:=by
 rw[Qcz];let o:O M (0+1) #[b[0],]:=#[rfl,λx j=>by rw[ĳ j];show hb.at h2]
 show Υ (GC (Qj (C8 h2 (QV (ϻ (zc7 (YI ha hb o Ō h2))) λe=>QV (ϻ (zc7 (Ur ha hb o Ō h2))) λl=>Qj Ht))));refine Qe5 (L:=Lo M a b) (Rr:=Ro M a b) (QpM hc hk ha hb) qJc qkc xt4 qje #[rfl,NQ _,o,XF h1 l,XF (i:=0) h2 e] (λx y z q=>?_) h
 ·let#[_,g,v,u,p,ac,B]:=t;let#[rfl,d,o,h1,h2]:=y;show QV (λ_=>qAh) λ_=>qAh
 ·let#[m,_,q2,q3]:=q;lia
#print"-"
set_option autoImplicit false
section
variable{prog:Program}{w:World}{A:Around}{E:Ô}{s:Shared}{κ:SortKind}{M:AA}{a b:ö}{st st0:SortSt}
abbrev Hi(M:AA)(a b:ö)(n d c:Nat)(out:ö):Prop:=n<=(pE d)+xt2/\O M ((pE d)+xt2) out/\0<d/\d<=a.size/\1<c/\c<=b.size
variable(hc:xx)(hk:xm8)(ha:zia a)(hb:zia b)
section
variable{out:ö}{na nb:Nat}
include ha hb
def Yx(o:PJ)(h1:ze5)(h2:ze6):Ro M a b (hD a b out na nb):=
 (((ha.ext 0 h1).app (hb.ext 0 h2)).app o.rev).cast qna
def Uz(o:PJ)(h1:ze5)(h2:ze6):Ro M a b (hF a b out na nb):=
 (((hb.ext 0 h2).app (ha.ext 0 h1)).app o.rev).cast ((congrArg (·+_) (D6 ..)).trans qna)
omit hb in
def Qtx(o:PJ){k:Nat}(hk:k<=na)(h1:ze5):O M ((pE k)+zJg) (out++(a.extract k na).reverse):=(o.app (ha.ext k h1).rev).cast (q2 hk h1)
omit ha in
def Qtf(o:PJ){k:Nat}(hk:k<=nb)(h1:ze6):O M (jid (b.size-k)) (out++(b.extract k nb).reverse):=(o.app (hb.ext k h1).rev).cast (q3 hk h1)
omit hb in
def Qux(o:PJ)(h0:0<na)(h1:ze5)(h:zcb):O M ((pE zf8)+zJg) (out.push a[na-1]):=(o.push xzd).cast (by let:=q2 (c:=b.size-nb) (EY na 1) h1;rwa[YbH h0]at this)
omit ha in
def Qu2(o:PJ)(h0:0<nb)(h1:ze6)(h:xzh):O M (jid qs5) (out.push b[nb-1]):=(o.push (hb.at h)).cast (by let:=q3 (c:=a.size-na) (EY nb 1) h1;rwa[YbH h0]at this)
omit ha hb in
def Y9{i n:Nat}(h:n<i)(e:¬(i-1==n)=true):n<i-1:=DL (Nat.le_sub_one_of_lt h) (jie e)
include hc hk
def QpS(u i n:Nat)(t:HnS)(st:SortSt)(j:SG)(h:Yl zLd n t):Ā (Qtu a b u i t) (nq zLd (n+1)):=by
 let#[_,na,nb,out,ac,x]:=t;let#[rfl,v,o,l,r,q,m]:=h;let f:zcb:=zkc l r;show(zK2 p q d m,ο (vl d (qjd f j d)));cases lt with
 |true=>
  dsimp only;let g:=Qux ha o l r f;let c:n+1<=qoh:=Ð
  show C7 (C8 f (HS (Τ #[j,ß #[_,rfl,Yx ha hb g (Nt f) m]]) (Τ #[j,ô #[rfl,c,g,Y9 l e,Nt f,q,m]]) #[j,rfl,c,g,Y9 l e,Nt f,q,m]))
 |false=>
  show zw8;let g:=Qu2 hb o p m d;let c:n+1<=qpa:=Ð
  show C7 (C8 d (HS (Τ #[j,jJe g r]) (Τ #[j,ô #[rfl,c,g,l,r,Y9 q e,Nt d]]) #[j,rfl,c,g,l,r,Y9 q e,Nt d]))
variable{mg ac bc n:Nat}(hg:SG)
include hg
omit hc hk in
def Qja(h:zKe):Ā (Qrb a b na nb out mg ac bc) zu1:=by
 let#[m,o,f,l,j,i]:=h;let c:zcb:=zkc f l;let g:=Qux ha o f l c;let d:n<=qoh:=Nh m (NX qFh _);show C7 (C8 c (HS (Τ #[hg,ß #[_,rfl,Yx ha hb g jja i]]) (Τ #[hg,ô #[rfl,d,g,Y9 f e,Nt c,j,i]]) #[hg,rfl,d,g,Y9 f e,Nt c,j,i]))
def Qjf(h:zKe):Ā (Qq6 a b na nb out mg ac bc) zu1:=by
 let#[u,o,p,f,t,r]:=h;let q:zcb:=zkc p f;show zK2 i t d r;let l:=Qu2 hb o i r d;let g:n<=qpa:=Nh u (Es qFh _);show Υ (C8 d (QV (Τ #[hg,jJe l f]) λe=>Qj (Zv q (Qj (Xy hc bD (ha.at q) hb Í (AQ k c) Í)))));refine QV i3 λ_=>Qja ha hb hg #[g,l,p,f,Y9 t e,Nt d];let j:=Qtf hb l c SO;let m:=Nh c SO;show QV (Τ #[hg,ß #[_,rfl,Uz ha hb j f m]]) λx=>QV (pM (jEj f m)) λv=>Qja ha hb hg #[Nh g (Es (IB c _) _),j,p,f,DL (DK (Yc v)) (jie x),m]
def Qjs(h:zKe):Ā (QqX a b na nb out mg ac bc) zu1:=by
 let r:=h;let#[p,o,q,g,m,d]:=h;show zK2 f m i d;let hg:=hg.set mg;show ο (JW (Qj (vl i (Qj (Xy hc bD (hb.at i) ha (Nh xm9 g) (AQ k c) (FU q Fx))))));refine QV i3 λ_=>xe1 r;let j:=Qtx ha o c g;let l:=Nh c g;show QV (pM (jEj l d)) λe=>xe1 #[Nh p (NX (IB c _) _),j,DK zk6,l,m,d]
#print"-"
include hc hk ha hb in
def Qdq{P:ö->Ş}(h1:0<a.size)(h2:0<b.size)(h:qt6):T prog w A E s (Yr a b) P st0:=by
 rw[QcS];let d:sT<a.size:=FU h1 Fx;let o:O M ((pE zd4)+(b.size-b.size)) #[a[sT],]:=#[by apply 1=_;lia,λx j=>by rw[ĳ j];show ha.at d]
 show Υ (GC (Qj (C8 d (QV (ϻ (zc7 (Yx ha hb o SO ĕ))) λe=>QV (ϻ (zc7 (Uz ha hb o SO ĕ))) λl=>Qj Ht))));refine Qe5 (L:=Hi M a b) (Rr:=Ro M a b) (QpS hc hk ha hb) qJc qkc xt4 qje #[rfl,NQ _,o,DK zk6,Nt d,(DL (m:=b.size) h2 (jie l):1<b.size),NA _] (λx y z q=>?_) h
 ·let#[_,B,v,g,C,ac,D]:=t;show cn y;show QV (λ_=>qQg) λ_=>qQg
 ·let#[u,_,q2,q3,q4,p]:=q;omega
#print"-"
set_option autoImplicit false
abbrev QsI(lo a d:Nat):StateT SortSt Sem AscSt:=
 forIn [a:d] ((nO,a):AscSt) λ_ c=>do
  let e <-ltAt' (lo+c.snd) (lo+c.snd-1)
  match e with
  |è b=>if Hx then pure (ForInStep.done (nO,c.snd))else pure (v3 (nO,c.snd+1))
  |_=>pure (ForInStep.done (sO nO,c.snd))
abbrev QlO(lo n a:Nat):İ d5:=do
 reverseSlice' lo zjg
 let b <-QsI lo n a
 match b.fst with
 |è r=>HF
 |none=>je9 b
abbrev Qr8(lo n e:Nat):StateT SortSt Sem DescSt:=
 forIn [n:e] ((nO,n,0):DescSt) λ_ a=>do
  let d <-ltAt' zQi (zVg-1)
  match d with
  | è b=>
   if Hx then
    if xzi then do
     qgb
     jE6
    else jE6
   else do
    let d <-ltAt' (zVg-1) zQi
    match d with
    |è c=>
     if BY then pure (ForInStep.done (nO,a.snd.fst,a.snd.snd))
     else pure (v3 (nO,qNg,a.snd.snd+1))
    |_=>pure qbh
  |_=>pure qbh
abbrev Qes(lo n b:Nat):İ d5:=do
 liftM (rule "list.sort.descending-run")
 let a <-Qr8 lo (n+1) b
 match a.fst with
 |è r=>HF
 | none=>
  if xzi then do
   qgb
   qTh
  else qTh
def QgR(lo b:Nat):countRun' lo b=(do
  let a <-QsI lo 1 b
  match a.fst with
  |è r=>HF
  | none=>
   if(a.snd==b)=true then je9 a
   else if a.snd>1 then do
    let i <-ltAt' lo (lo+a.snd-1)
    match i with
    | è c=>if BY then je9 a else do
      reverseSlice' lo (lo+a.snd)
      xhd
    |_=>Hn
   else xhd):=by
 rw[countRun'_eq];refine qm6
 ·(focus (show jUc;(show zxe)))
 funext a;show ĉ r n a;cases r with
 |some r=>rfl
 | none=>
  dsimp only;refine ZE rfl (ZE (JX rfl (ļ c)) ?_)
  ·dsimp only;refine ZE rfl (QI iC)
   show jnj
  ·show jnj
def Qcb(i:Nat):mergeAt' i=(do
 let s <-get
 let(sO (b,d,power),sO (e,c,_)):=((pendingOf s)[i]?,(pendingOf s)[i+1]?)|unsupported "internal:list.sort.pending"
 set (setPending s (((pendingOf s).setIfInBounds i (b,d+c,power)).eraseIdxIfInBounds (i+1)))
 let sO k <-JJ false (<-Ah i4 e) i4 b d 0|return false
 let(b,d):=(b+k,d-k)
 if d==0 then return true
 let sO c <-JJ true (<-elem' i4 (b+d-1)) i4 e c (c-1)|return false
 if c==0 then return true
 let x:=(arrOf s).extract b e
 let y:=(arrOf s).extract e (e+c)
 let merged <-if d<=c then Yq x y else Yr x y
 modify λs=>setArr s (merged.toList.zipIdx.foldl (zGg (b+j)) i4)
 return qy5):=rfl
section
variable{prog:Program}{w:World}{A:Around}{E:Ô}{s:Shared}{κ:SortKind}{M:AA}{N:Nat}{p:Array zv}
structure G(κ:SortKind)(M:AA)(N:Nat)(p:Array zv)(st:SortSt):Prop where
 kind:zg6=κ
 failed:zZ0=nO
 o:O M N xt0
 pend:pendingOf st=p
def G.arr{st:SortSt}(g:eX){a:ö}(h:O M N a):G κ M N p (setArr st a):=#[g.kind,g.failed,h,g.pend]
variable(hc:xx)
section
variable{st:SortSt}(g:eX)
include g
def Qgm{i j:Nat}{P:zwa}(h:∀a,zae->P () a):Ā (reverseSlice' i j) P:=by
 rw[reverseSlice'_eq];show JW (h _ (g.arr (g.o.perm (mirror_perm _ _ _ _))))
include hc
def U0{i j:Nat}{P:zc2->Ş}(hi:i<N)(a:j<N)(h:zMa):Ā (ltAt' i j) P:=by
 let hi:=g.o.n.symm▸hi;let a:=g.o.n.symm▸a;rw[ltAt'_eq];show zW (Y5 (Qj (Zv hi (Qj (Zv a (Qqf hc g.kind (g.o.at hi) (g.o.at a) h))))))
variable{lo n nrem:Nat}(hn:lo+nrem<=N)(hnn:n<=nrem)
include hn hnn
def Qqy{P:AscSt->Ş}(h:∀m,n<=m->jkd->P (nO,m) st):Ā (QsI lo n nrem) P:=by
 refine Qcd (λx c a=>a=st/\c=(nO,x)) hnn ζ ?_ λc a q=>by show(yW q,h nrem hnn ĕ)
 rintro x c _ f e ⟨rfl,rfl⟩
 let d:=jch e;show C7 (U0 hc g d (zjh d) λb=>fb (ϻ (h x f jjb)) ζ)
variable(h1:1<=n){P:jT->Ş}(h:qia)
include h1 h
def Qjt:Ā (QlO lo n nrem) P:=
 Qj (Qgm g λa g1=>Qj (Qqy hc g1 hn hnn λm b q2=>Ql (h m a (Nh h1 b) q2 g1)))
#print"-"
section
variable{st:SortSt}(g:eX){lo n nrem:Nat}(hn:lo+nrem<=N){P:jT->Ş}(h:qia)
include hc g hn h
def QdZ(a:n+1<=nrem):Ā (Qes lo n nrem) P:=by
 show Υ (GC (Qj (Vg (P:=λc st'=>zSa/\∃m q,c=(nO,m,q)/\n+1<=m/\jkd) (Qcd (λx c st'=>zSa/\∃q,c=(nO,x,q)) a #[g,0,rfl] ?_ λc st' q=>#[q.1,nrem,q.2.choose,q.2.choose_spec,a,NA _]) ?_)))
 ·rintro x c st' i d ⟨g,q,rfl⟩
  let f:=jch d;let j:=Ni (EY _ 1) f
  show Qj (U0 hc g f j λb=>QV (λ_=>fb (λ_=>Qj (Qgm g λe g1=>Ql #[g1,_,rfl])) xma) λ_=>
   Qj (U0 hc g j f λb=>fb (Τ #[g,x,q,rfl,i,Nt d]) xma))
 ·rintro c st' ⟨g,m,q,rfl,i,d⟩
  let l:1<=m:=Nh uj i;show QV (λ_=>Qj (Qgm g λe g1=>Qjt hc g1 hn d l h)) λ_=>Qjt hc g hn d l h
def QlR(h1:1<=nrem):Ā (countRun' lo nrem) P:=by
 rw[QgR];show Υ (Qqy hc g hn h1 λn d a=>QV (ϻ xac) zng);let c:=DL a zk6;let f:=jch c;show QV (λ_=>Qj (U0 hc g (Ni Ů f) (zjh f) λb=>QV (ϻ xac) λ_=>Qj (Qgm g λi g1=>QdZ hc g1 hn h c))) λ_=>QdZ hc g hn h c
#print"-"
include hc in
def QhV{st:SortSt}(g:eX){lo n ok:Nat}{P:Bool->Ş}(z:jke)(h1:1<=n)(t:ok<=n)(h:∀a,zae->P true a):Ā (binarySort' lo n ok) P:=by
 rw[binarySort'_eq];show Υ (K1 (λc a=>dL/\zae) (Nat.max_le.mpr (ę t h1)) (ϊ g) ?_ λc a q=>by show(BH g q,Ql (h _ g)))
 rintro k c a _ hk ⟨rfl,g⟩
 let v:=Ng (NW hk lo) z
 let fin:∀{u:Type} {P:u->Ş} {f:Unit->İ u} {i j:Nat},(∀a,zae->T prog w A E s (f ()) P a)->T prog w A E s (moveDown' i j>>=f) P a:=λh=>by
  rw[moveDown'_eq];show zW (JW (h _ (g.arr (g.o.perm (bubble_perm _ _ _)))))
 show Υ (Vg (P:=λc d=>d=a/\c.1=nO) (K1 (λc d=>d=a/\∃l r,xh7 k) Ō #[rfl,0,k,rfl,NA _] ?_ λc m q=>#[q.1,by let#[_,_,_,rfl,_]:=q;rfl]) ?_)
 ·rintro x c _ _ B ⟨rfl,l,r,rfl,y⟩
  refine QV (ϻ ζ) zng;let mid:(l+r)/2<=k:=Nh (Nat.div_le_of_le_mul (by rw[Nat.two_mul];show NX (Nt (D3.mp e)) r)) y;show C7 (U0 hc g v (Ni (Es mid lo) v) λb=>fb (Τ #[rfl,l,_,rfl,mid]) #[rfl,_,r,rfl,y])
 ·rintro⟨C,l,r⟩ _ ⟨rfl,e⟩
  cases e;show fin λm g=>Ql (ϊ g)
abbrev Ch:jG->Nat->ie
 |[],a,b=>a=b
 |p::r,a,b=>p.1=a/\1<=p.2.1/\Ch r (a+p.2.1) b
def Ch.le:∀{l:jG} {a b:Nat},Ch l a b->a+l.length<=b:=λ{l}=>by
 induction l with
 |nil=>show λh=>Nv h
 |cons p r c=>show λ#[_,e,d]=>by let:=c d;rw[NP,D6 _ 1,<-EG];show Nh (NX (Es e _) _) this
def Ch.app:∀{f e:jG} {a b:Nat},Ch (f++e) a b↔∃m,Ch f a m/\Ch e m b:=λ{f}=>by
 induction f with
 |nil=>show λ{e a b}=>#[jw h #[a,rfl,h],λ#[m,d,c]=>by show Ω d c]
 |cons p r i=>show λ{e a b}=>#[λ#[d,c,j]=>let#[m,g,q2]:=i.mp j;qLe,jw qLe #[d,c,i.mpr #[m,g,q2]]]
def Qms{c:Type}(b d:ä c)(x y z:c):((b++x::y::d).set b.length z).eraseIdx (qN b)=b++z::d:=by
 induction b with
 |nil=>rfl
 |cons a l e=>show congrArg (a::·) e
structure R(κ:SortKind)(M:AA)(N lo:Nat)(st:SortSt):Prop where
 g:G κ M N xa8 st
 le:lo<=N
 ch:Ch qLf 0 lo
include hc in
def Gj{i lo:Nat}{st:SortSt}(h:zSb)(hi:i+1<fP) :
  Ā (mergeAt' i) jFd:=by
 rw[Qcb];show ϋ g F c h;let hl:i+1<(pendingOf st).toList.length:=zO7
 let ae:=EU hl
 let e:qLf=qz4++zH9::zG7::qr8:=by
  rw[<-Ek,<-Ek,LC]
 let aa:((pendingOf st).toList.take i).length=i:=List.length_take_of_le (Nt ae);rw[e]at c;let#[m,c1,S,J,Q,I,H]:=Ch.app.mp c;let e1:(pendingOf st)[i]?=sO zH9:=xhe
 let e2:(pendingOf st)[i+1]?=sO zG7:=xhe
 show ο Ht;rw[e1,e2];generalize zH9=x at e c1 S J Q I H;generalize zG7=y at e c1 S J Q I H;show ϋ f l t x;let#[sb,v,X]:=y;dsimp only at S J Q I H;subst S;subst Q;let h3:=Nh (Nh Ů H.le) F
 let C:(((pendingOf st).setIfInBounds i zbb).eraseIdxIfInBounds (i+1)).toList=qz4++zbb::qr8:=by
  rw[Array.toList_eraseIdxIfInBounds,Ow]
  conv=>lhs;rw[e]
  let:=Qms ((pendingOf st).toList.take i) ((pendingOf st).toList.drop (i+2)) (f,l,t) (f+l,v,X) zbb;rw[aa]at this;show this
 let z1:=zP1 C;let z2:=zP1 e;simp only[NH,NP,Ea]at z1 z2
 let fin:∀d:SortSt,PyProof.Rows.kindOf d=κ->failedOf d=nO->O M N (arrOf d)->pendingOf d=qab->jVi:=λd q1 q2 q3 q4=>
  #[#[#[q1,q2,q3,rfl],F,by rw[q4,C];show Ch.app.mpr #[f,c1,rfl,Nh J Ů,by rw[<-EG];show H]],by rw[q4,z1,z2,EG]]
 dsimp only;generalize qab=u at fin ⊢;let q:=Ng (Yaa I) h3;let z:f+l<xe2:=by rw[g.o.n];show q
 let ok:=fin qQh g.kind g.failed g.o rfl;let D:=Nt q;show ο (QsG (Qj (vl z (Qj (Xy (st:=rC) hc g.kind (g.o.at z) g.o D xh1 J)))));refine QV (ϻ xt5) (ļ e3);let B:f+k+(l-k)-1<xe2:=by rw[g.o.n,EG,E1 hk];show Ni CO q
 show ο (vl B (Qj (Xy (st:=rC) hc g.kind (g.o.at B) g.o h3 (λn2 ab=>?_) (FU I Fx))));refine QV (ϻ xt5) (ļ e4);let P:=g.o.ext (f+k) (j:=f+l) D;let L:=g.o.ext (f+l) (j:=f+l+n2) (Nh (Es ab _) h3);let Z:0<f+l-(f+k):=by rw[Nat.add_sub_add_left];show DK (Yc e3)
 let Y:0<f+l+n2-(f+l):=by rw[DT];show DK (Yc e4)
 let last:∀(r:ö) (d:SortSt),Sg qQh d->Ro M ((arrOf st).extract (f+k) (f+l)) ((arrOf st).extract (f+l) (f+l+n2)) r ->
   T prog w A E s (do
    modify λs=>setArr s (r.toList.zipIdx.foldl (zGg (f+k+j)) i4)
    return qy5) jFd d:=by
  rintro r _ ⟨gg,rfl⟩ ro
  show C7 (JW (Qj (Y5 (Ql #[by apply(failedOf st).isNone=true;rw[g.failed];rfl,fin _ g.kind g.failed (O.lay (f+k+·) _ 0 _ ro.all g.o) rfl]))))
 rw[<-P.n]at Z;rw[<-L.n]at Y;show QV (λ_=>Qj (Qep (st0:=rC) hc g.kind (zd5 P) (zd5 L) Z Y last)) λ_=>Qj (Qdq (st0:=rC) hc g.kind (zd5 P) (zd5 L) Z Y last)
def R.push{lo n:Nat}{st:SortSt}(h:zSb)(a:1<=n)(b:jke):R κ M N zjg (setPending st ((pendingOf st).push zZ1)):=
 #[#[h.g.kind,h.g.failed,h.g.o,rfl],b,by
  apply Ch ((pendingOf st).push zZ1).toList 0 zjg;rw[Le]
  show Ch.app.mpr #[lo,h.ch,rfl,a,rfl]]
def Ch.pow(f:Nat)(l:jG):∀{a b:Nat} (i:Nat),Ch l a b->Ch (l.modify i (ja4 f)) a b:=by
 induction l with
 |nil=>show λ{a b} i h=>by rw[List.modify_nil];show h
 |cons p r g => 
  rintro a b (_|i) ⟨e,d,c⟩
  show Ħ #[e,d,c]
  show Ħ #[e,d,g i c]
#print"-"
set_option autoImplicit false
section
variable{prog:Program}{w:World}{A:Around}{E:Ô}{s:Shared}{κ:SortKind}{M:AA}{N:Nat}
def Quz{a:Type}{m b:İ a}{P:a->Ş}{st:SortSt}(e:m=b)(h:Ā b P):Ā m P:=e▸h
variable(hc:xx)
include hc
def Qi8{size lo n:Nat}{st:SortSt}(h:zSb)(l:1<=n)(m:jke){P:ForInStep (xzj×Nat)->Ş}
  (u:∀a,R κ M N zjg a->P zI3 a):T prog w A E s (do
   let st <-get
   match zLe with
   | some (e,d,_)=>do
    let t <-forIn [0:size] (kz:xzj×Unit) λ_ _=>do
     let st <-get
     match (if fP>1 then(pendingOf st)[fP-2]? else nO)with
     | some (_,_,f)=>if f<=qib then jr1 else do
       let b <-mergeAt' (fP-2)
       if(!b)=true then pure (Ĭ (sO (),()))else pure (.yield kz)
     |_=>jr1
    match t.1 with
    |è r=>pure (Ĭ (sO r,lo))
    |none=>do
     modify λs=>jWb s
     jZd
     pure zI3
   |_=>do
    jZd
    pure zI3) P st:=by
 show ο Ht;cases zLe with
 |none=>show zW (JW (Ql (u _ (h.push l m))))
 | some p=>
  show ϋ e d z p;show Υ (Vg (P:=λc a=>dL/\cZ a) (K1 (λc a=>dL/\cZ a) Ō (ϊ h) ?_ TK) ?_)
  ·rintro x c a _ _ ⟨rfl,i⟩
   show ο Ht
   by_cases j:qTi>1
   ·rw[Ò j];cases(pendingOf a)[qTi-2]? with
    |none=>show qX3
    |some B=>
     refine QV (ϻ (ϊ i)) λ_=>Qj (Vg (Gj hc i Í) ?_)
     show xt6 v y (ϊ y)
   ·rw[Õ j];show qX3
  ·rintro c a ⟨rfl,g,le,ch⟩
   show Υ (JW (Qj (JW (Ql (u _ (R.push (st:=jWb a) #[zCb g,le,?_] l m))))));apply Ch (Array.modify _ _ _).toList 0 lo;rw[Array.toList_modify];show ch.pow _ _ _
def Qb4{st:SortSt}{P:zwa}(g:G κ M N #[] st)(h:∀a,G κ M N (pendingOf a) a->P () a):T prog w A E s sortRuns' P st:=by
 rw[sortRuns'_eq];show ο Ht;rw[g.o.n];show Υ (Vg (P:=λc a=>c=(nO,N)/\zVh) (Qcd (λx c a=>∃lo,c=(nO,lo)/\cZ a/\x<=lo) Ō #[0,rfl,#[zCb g,NQ _,by rw[g.pend];rfl],NQ _] ?_ ?_) ?_)
 ·rintro x c a _ C ⟨lo,rfl,q,p⟩
  refine QV (λe=>Ql ?_) zng
  ·let:=Dr q.le e;show yY jc9
  let e:=D3.mp e;let y:=E1 jjb;show ο (QlR hc q.g jii (λm u f v g1=>?_) (OJ e));let B:cZ u:=jr2 g1
  refine QV (λl=>Qj (GC ?_)) (ļ l)
  ·let f1:m<=zG2:=Nat.le_min.mpr #[v,Nt l];let f2:lo+zG2<=N:=Nh (Es qHf _) jii;show ο (QhV hc g1 f2 (Nh f f1) f1 (Ó d g2));let q2:cZ d:=jr2 g2
   refine Quz ?_ (Qi8 (size:=N) (n:=zG2) hc q2 (Nh f f1) f2 jzb)
   show jR6
  ·refine Quz ?_ (Qi8 (size:=N) (n:=m) hc B f Í jzb)
   show jR6
 ·rintro c a ⟨lo,rfl,q,p⟩
  let:=Dr q.le p;show yY jc9
 ·rintro c a ⟨rfl,q⟩
  show Υ (Vg (P:=λc a=>dL/\zVh) (K1 (λc a=>dL/\zVh) Ō (ϊ q) ?_ TK) ?_)
  ·rintro x c d _ C ⟨rfl,r⟩
   show Υ (Y5 (QV (ϻ (ϊ r)) λD=>Qj (Vg (Gj hc r ?_) ?_)))
   ·repeat' split
    all_goals omega
   ·show xt6 i z znh
  ·rintro c d ⟨rfl,r⟩
   show Ql (h d r.g)
#print"-"
section
variable{prog:Program}{w:World}{A:Around}{E:Ô}{s:Shared}
def Qhe{a:Addr}{vs:Ï}{n:Nat}{κ:SortKind}{P:PySem.Fin->Ϣ}(D:gw=sO (seqObj "list" vs.toArray n))(hz:zLf)
  (hk:xt7->∀g:Heap,zq5->jy9)
  (M:∀g:Heap,zq5->∀x∈vs,∀y∈vs,jn8 A)
  (h:∀(g:Heap) (tk c:Nat) (us:Ï),bz->bE->zq5->Bl g a=sO qgj->jh8 P (Ĭ qhg) g) :
  Ct (Builtin.«list.sort» zm6) P s:=by
 obtain⟨v,g1⟩:∃v,xq1 a zpi=qFi:=#[_,get?_update_seq D λ_=>#[]]
 rw[list_sort_plain];show Ê (listItems_at D rfl (Na (listUpdate_at D rfl ?_ (by rw[ND];show hz) Ō)));show Ê (seqEpoch_at g1 rfl (Na (wpAny_newTuple ?_ (by apply vs.length<=_;show hz))));show Ê (Ov zi9 Ō);apply wpAny ŝ A _ P E { s with heap:=jRj };let m:∀b o,b≠a->Ϲ->(((s.heap.update a zpi).push zBb).push yD).get? b=sO o:=λb o r e=>Ś (Nr _ (xh0 r));let g2:(((s.heap.update a zpi).push zBb).push yD).get? a=qFi:=Ś (Nr _ g1);generalize jRj=g at m g2
 let fin:∀(st:SortSt) (tk:Nat) (us:Ï),bz->bE->(arrOf st).map (·.2)=us.toArray->zZ0=nO->wpAny ŝ A (do
   let i:=(<-seqEpoch a) != v
   Builtin.List.listUpdate ħ λ_=>(arrOf st).map (·.2)
   if let sO e:=zZ0 then rule "list.sort.comparison-raised";throw e
   if i then rule "list.sort.modified";raiseError "ValueError" "list modified during sort"
   ret .none) P E { s with heap:=g,toks:=tk }:=by
  intro st tk us F I J q2;rw[J,q2];show ĵ (seqEpoch_at g2 rfl (Na (listUpdate_at g2 rfl ?_ Ō (by rw[ND,F];show Nh hz Ů))));simp only[bne_self_eq_false,Du,if_false];show ύ (h _ tk _ us F I (λb o r e=>zgd (N8 r) (m b o r e)) (get?_update_seq g2 λ_=>us.toArray))
 let H:((pairsOf vs).map (·.2))=vs.toArray:=Array.ext' (by rw[Array.toList_map,pairsOf_toList,List.map_snd_zip ĕ]);dsimp only
 by_cases l:vs.toArray.size<2
 ·rw[Ò l,Ò l];show Ê υ;rw[StateT.run_pure];show Na (CJ (fin (SortSt.mk' general' (vs.toArray.zip vs.toArray) #[] 7 nO) s.toks vs rfl (λ_ h=>h) H rfl))
 ·rw[Õ l,Õ l];show ĵ (Eb (hk (by rw[ND]at l;show N4.mp l) g m (λd B=>d=κ/\B={ s with heap:=g }) ζ) (jy d B z) qB);show yW z;let S:Cmp prog w A { s with heap:=g } d qAi:=λx y j L tk C q=>M g m x.1 j.2 y.1 L.2 tk C q;show ĵ (Eb (Qb4 (E:=E) (N:=vs.length) (P:=λ_ f=>G d qAi vs.length (pendingOf f) f) (st:=SortSt.mk' d xhf #[] 7 nO) S #[rfl,rfl,#[?_,Ÿ j],rfl] (λf p=>p) s.toks) ?_ (AD e))
  ·let:=congrArg Array.size H;rwa[Array.size_map]at this
  ·rw[show(arrOf (SortSt.mk' d xhf #[] 7 nO)).toList=_ from pairsOf_toList ..]at j;show#[(D9 j).2,(D9 j).1]
  rintro⟨⟨⟩,f⟩ B ⟨⟨t,rfl⟩,g⟩
  show fin f t ((arrOf f).toList.map (·.2)) (by rw[Nq,Ea,g.o.n]) (λu hu=>by let#[x,j,rfl]:=Ny.mp hu;show(g.o.all x j).1) (Array.ext' Å) g.failed
def Qb5{l:Addr}{vs:Ï}{κ:SortKind}{Q:Ô}(p:qC4)(hz:zLf)
  (hk:xt7->∀(A:Around) (g:Heap),zrc->jy9)
  (q:∀(i:Around) (g:Heap),i=A.in1.in1->zrc->∀x∈vs,∀y∈vs,jn8 i)
  (h:∀(D:Addr) (g:Heap) (tk c:Nat) (us:Ï),bz->bE->zrc->jU6) :
  ò qi6:=by
 refine qb4;refine Na (m:=qDe) υ;show(Ê (collect_list p ?_ hz),Ê (Ov ?_ hz))
 let d:((s.heap.push yD).update s.heap.objs.size (Obj.mapSeq (·++vs.toArray))).objs.size=yO:=by
  rw[Heap.size_update,size_push']
 let f:(((s.heap.push yD).update s.heap.objs.size (Obj.mapSeq (·++vs.toArray))).push yz).get? j0=sO yz:=by
  rw[<-d];show Ű
 let old:∀b o,Ϲ->(((s.heap.push yD).update s.heap.objs.size (Obj.mapSeq (·++vs.toArray))).push yz).get? b=sO o:=λb o e=>
  Ś ((EL _ _ (EB CT)).trans Sz)
 apply wpAny _ _ _ _ _ { s with heap:=((s.heap.push yD).update s.heap.objs.size (Obj.mapSeq (·++vs.toArray))).push yz };rw[d];let ne:∀b o,Ϲ->b≠yO:=λb o e=>NK (E4 CT)
 refine Na (N9 (Eu slot_list_sort (ϖ f) entry_list_sort (Qhe (A:=A.in1.in1) (κ:=κ) (s:={ s with heap:=((s.heap.push yD).update s.heap.objs.size (Obj.mapSeq (·++vs.toArray))).push yz }) f hz
  (λr g a=>hk r _ g qgg) (λg a=>q _ g rfl qgg) λg tk c us n j a hD=>eO) qNd))
 show ύ #[_,rfl,h _ g tk c us n j (λb o e=>a b o qNh qJd) iW hD]
#print"-"
#print"-Us"
namespace Sb
open L2 PySem.W SeqAt
section
variable{prog:Program}{w:World}{A:Around}{E:Ô}{s:Shared}{b:Bool}{Q:yi}
abbrev ty0:Sh->String
 |.i=>"int"
 |.s=>"str"
 |.t _=>"tuple"
 |.l _=>"tuple"
def Qg0:∀(vs:Ï),(∀v∈vs,∃t,IsQ h (n+2) t v/\Wf (n+2) tX t)->∃fs,KatTups h vs fs/\fs.length=vs.length/\∀f∈fs,Looks ŝ h (typeOf f) (.type qTj):=by
 intro vs
 induction vs with
 |nil=>
  intro _;show#[[],trivial,rfl,λ_ m=>jY m]
 | cons v vs F=>
  intro D;let#[t,r,p]:=D v NF;let#[fs,f1,f2,L]:=F (π b J D);let#[ks,rfl,p]:=p;let#[a,j,rfl,#[o,H,I,l,hd],r]:=r;obtain⟨z,rfl⟩:∃z:Ï,j=z.toArray:=#[j.toList,Ç]
  rw[IA]at r;cases p with
  | cons y N=>
   cases r with
   | cons q M=>
    rename_i k ks u z;show Mz #[u::fs,KatTups.cons H I hd Å f1,AJ f2,Ó f m] m
    ·cases sh0 with
     |i=>
      show jof
     |s=>
      show jof
     |t l=>
      show jzc
     |l e=>
      show jzc
    ·show L f m
noncomputable abbrev Qpx(h:Heap)(sh0:Sh)(shs:List Sh)(vs:Ï):Prop:=∀v∈vs,∃t,IsQ h 8 t v/\Wf 8 tX t
#print"-"
#print"-Sb"
namespace Us
open L2 PySem.W SeqAt Sb
abbrev LtA(A:Around)(s:Shared)(p q:Value):Prop:=∀(a:Program) (w:World) (E Q:Ô),(∀b,Q wY s)->cG (model a w) (richCompare .Lt p q)
inductive LexA(A:Around)(s:Shared):zLg->Prop where
 |nil:LexA A s []
 |cons {p q:Value} {r:zLg} (e:Bool) (h:EqAt A s p q e) (k:LtA A s p q) (t:zlc r):zlc ((p,q)::r)
def Qfa(l b:Addr)(items a:Ń)(n u:Nat)(dd p:BG)(t j:fM) :
  Meets (Builtin.«tuple.__lt__» jE1)
   (λA R s=>qD=sO { cls:=jN,dict:=dd,data:=ja2 n,slots:=t }/\gu=sO { cls:=jN,dict:=p,data:=.seq a u,slots:=j } /\
    qdg/\∀c,R (.ok (.ret (Tq c))) s):=
 .of_wp λf w A R s h=>by
  show kj r;let#[v,B,z,h]:=h;let f2:=OV
  wp_walk using Dq v,Dq B,Ik _ (λrest b m=>b.1=nO/\m=qWi/\LexA A.in1 qWi rest) _
  case turn=>
   rintro⟨y,x⟩ rest b m ⟨i,o,q⟩
   subst o;cases q with
   | cons e E D C=>
    show Ê (E f w _ _ ?_);cases e with
    |true=>
     show jkf #[rfl,rfl,C]
    |false=>
     show Ê (Ds (Na (D f w _ _ (ļ c))))
     show jkf #[_,rfl,h c]
  case fin=>
   rintro⟨H,F⟩ m ⟨i,rfl,q⟩
   show vL i
   show jkf #[_,rfl,h _]
  case h=>
   show#[rfl,rfl,z]
section
variable{A:Around}{s:Shared}
def LtA.tuples(t:RC)(v:s.heap.IsTuple b a)(hu:uf)(u:qdg):LtA A s znd ym:=λj w E Q h=>by
 show zL1 q m o t;let#[#[p,i,data2,g],d,f,r,e]:=id v;show zT1 o f e
 show richCompare_meets_room (op:=.Lt) (ϖ m) (ϖ d) F.slot_tuple_lt F.entry_tuple_lt (F.args_tuple_lt_2 _ _) (Qfa l b items a n r dd i q g)
  #[m,d,u,λc=>show zi6 c≠Value.notImplemented/\Q (Tq c) s from#[nofun,h c]] hu
abbrev Zw(n:Nat)(ks ls:Hu):Prop:=∀p∈ks.zip ls,∃a,Wf n a p.1/\Wf n a p.2
def QuJ(p:qHc):∀{ls},Paired xsi l ls->ze7:=by
 induction p with
 |nil=>show λ_ x h=>jY h
 | cons b d c=>
  intro ls q x h;cases q with
  |cons a q2=>
   rw[IR]at h
   show Ŧ h
   show Ħ #[_,b,a]
   ·show c q2 x h
def Qwx(p:∀x∈ks,jha)(q:∀x∈ls,jha):ze7:=Ľ x h #[e,p _ (D9 h).1,q _ (D9 h).2]
def Qsi{f:Sh}(c:Wf (n+1) f x)(r:Wf (n+1) f y)(d:IsQ h (n+1) x ħ)(u:IsQ h (n+1) y ym) :
  ∃its its' ks ls,kl/\h.IsTuple b its'/\rj jbh/\Paired jbh ls its'.toList/\ze7:=by
 cases f with
 |i=>show(ņ x c,xmb)
 |s=>show(ņ x c,xmb)
 |t l=>
  show(qt7,qjf,ï e #[its,its',ks,ls,o,m,j,g,QuJ p q])
 |l e=>
  show(qt7,qjf,ï e #[its,its',ks,ls,o,m,j,g,Qwx p q])
def Qjl(A:Around)(hu:vw)(g:∀a x y u v,Wf n a x->Wf n a y->jBj)(p:Paired xae ks us):∀{ls vs},Paired xae ls vs->ze7->zlc (us.zip vs):=by
 induction p with
 |nil=>show λ_ _=>.nil
 | cons c i f=>
  intro ls vs q z;cases q with
  |nil=>show .nil
  |cons b q2=>
   rw[IR];let#[a,e,d]:=z _ NF;show .cons _ (QuG n A hu _ _ _ _ (QoJ _ _ c) (QoJ _ _ b)) (g a _ _ _ _ e d c b) (f q2 (π x h z))
def QrL:∀(n:Nat) (A:Around),vw->∀r x y u v,Wf n r x->Wf n r y->jBj:=λn=>by
 induction n with
 |zero=>show qD3
 | succ n J=>
  intro A hu r x y u v f d j g
  let tup:∀{a b},u=Ä a->Pn->qNi:=λ{a b} o m=>by
   subst o m;let#[I,C,ks,B,M,L,H,F,z]:=Qsi f d j g;show LtA.tuples M L Cw (Qjl A.in1 f0 (J A.in1 f0) H F z)
  cases r with
  |i=>
   show(AV x f y d,AV t j D g);show λc w E Q h=>PyProof.Rows.lt_int (h _)
  |s=>
   show(AV x f y d,AV t j D g);show λc w E Q h=>PyProof.Rows.lt_str (h _)
  |t l=>
   show(qpb,qic)
  |l e=>
   show(qpb,qic)
#print"-"
section
variable{prog:Program}{w:World}{A:Around}{E:Ô}{s:Shared}{b fin:Bool}{Q:yi}
def QgJ{P:Value->cf}(f:∀u v,P u v->tP A (oneLt' b u v) Q j3 s):∀{l:zLg} (i:Nat),(i=0->∀p q r,l=(p,q)::r->P p q)->zlc l->(∀c,Q c s)->KatLex prog w A b fin Q l i s:=λ{l}=>by
 induction l with
 |nil=>show λi _ _ h=>kat_nil (h _)
 | cons p l a=>
  intro i d x h;let#[p,q]:=p;cases x with
  | cons e m j g=>
   refine kat_cons (m _ _ _ _ ?_);cases e with
   |true=>show kat_yes (a (i+1) Bt g h)
   |false=>
    refine kat_no ?_
    by_cases c:i=0
    ·let:=f p q (d c _ _ _ rfl);subst c;rw[beq_self_eq_true,Iu];show this
    ·rw[show(i==0)=false from xk c,Fy];show kat_one p q (j _ _ _ _ xhg)
def Qkt(hu:A.units+(n+2)<cLine)(p:Wf (n+2) tX x)(q:Wf (n+2) tX y)(r:vY (n+2) x u)(t:vY (n+2) y v)(h:∀c,Q c s) :
  ò (keyLt' (tuples' qhh) u v):=by
 let#[ks,rfl,p]:=p;let#[ls,rfl,q]:=q;let#[a,m,rfl,H,r]:=r;let#[b,f,rfl,F,t]:=t;let#[o1,M,_,n1,L]:=H;let#[Z,J,_,n2,I]:=F;let d:A.units+(n+1)<cLine:=EU hu;refine kat_lt M L J I (QgJ (P:=λu v=>∃x y,Wf (n+1) sh0 x/\Wf (n+1) sh0 y/\vY (n+1) x u/\vY (n+1) y v) ?_ 0 ?_ (Qjl A d (QrL (n+1) A d) r t (QuJ p q)) h)
 ·rintro u v ⟨x,y,j,g,g1,g2⟩
  cases sh0 with
  |i=>
   show(ņ x j,ņ y g,ņ t g1,ņ z g2,oneLt_int (h _))
  |s=>
   show(ņ x j,ņ y g,ņ t g1,ņ z g2,oneLt_str (h _))
  |t l=>show jW1
  |l e=>show jW1
 ·intro _ u v l e;cases p with
  | cons D Y=>
   cases q with
   | cons C q2=>
    generalize m.toList=S at r e;generalize f.toList=N at t e;cases r with
    | cons B X=>
     cases t with
     |cons o U=>
      rw[IR]at e;show Ω e #[_,_,D,C,B,o]
def sorted_tups{Q:Ô}(hu:xaf)(p:qC4)(hz:zLf)(e:Qpx s.heap sh0 shs vs)
  (h:∀(D:Addr) (g:Heap) (tk c:Nat) (us:Ï),bz->bE->Ex s.heap g->jU6) :
  ò qi6:=by
 refine Qb5 (κ:=tuples' qhh) p hz ?_ ?_ h
 ·intro r J g a M d
  let#[fs,f1,f2,z]:=Qg0 (prog:=prog) (w:=w) (h:=g) (n:=6) vs λv o=>by
   let#[t,i,f]:=e v o;show#[t,Yp a _ _ i,f]
  show kat_kind (s:={ s with heap:=g }) f1 (Ng (Ng Ñ r) (ī f2)) z Å d
 ·rintro J g rfl a x m y j tk C q
  let#[i,I,H]:=e x m;let#[f,F,B]:=e y j;show Qkt (n:=6) (s:={ s with heap:=g,toks:=tk }) (by apply vy+1+8<cLine;lia) H B (Yp a _ _ I) (Yp a _ _ F) λc=>q c tk
#print"-"
#print"-Us"
namespace Mi
open L2 Sb
set_option backward.eqns.deepRecursiveSplit false in
abbrev plN:Nat->zV9
 |0,_=>nO
 |_+1,Â i=>sO (.i i)
 |_+1,Ü x=>sO (.s x)
 |n+1,ŋ=>(ws.mapM (plN n)).map .t
 |_+1,_=>nO
set_option backward.eqns.deepRecursiveSplit false in
mutual
abbrev toW:Tr->W
 |.i n=>Â n
 |.s x=>Ü x
 |.t ks=>Î (Qq0 ks)
abbrev Qq0:Hu->Ã
 |[]=>[]
 |k::ks=>toW k::Qq0 ks
end
set_option backward.eqns.deepRecursiveSplit false in
abbrev plL:Ã->Option (List Tr)
 |[]=>sO []
 |ŋ::r=>(plN 8 BP).bind λt=>(plL r).map (t::·)
 |_::_=>nO
def mapM_cons(e:(a::l).mapM f=sO ks):∃k r,f a=sO k/\l.mapM f=sO r/\ks=k::r:=by
 rw[Dh]at e;show(ē c g i e,ē b d h i,ï (show sO (c::b)=sO ks from h) #[_,_,g,d,rfl])
def QqK:∀(n:Nat) (w:W) (t:Tr),xt8->w=toW t:=by
 intro n
 induction n with
 |zero=>
  intro _ _ e;show zlh
 | succ n d=>
  intro w t e;cases w with
  |int i=>show bH;simp[toW]
  |str x=>show bH;simp[toW]
  | tup a=>
   show jea;let#[ks,b,rfl]:=ό e;rw[toW];congr 1;clear e
   induction a generalizing ks with
   |nil=>cases(zNc b);rw[Qq0]
   |cons w a c=>
    let#[k,r,g,f,rfl]:=mapM_cons b;rw[Qq0,<-d w k g,<-c r f]
  |_=>show zlh
section
variable{X:Cx}{pins:Ý}{σ:L2.St}{H:Hp}{s:Shared}{R:Rn}{h:MH}
def Qro(I:á)(p:Ϧ):∀(n:Nat) (w:W) (v:V) (u:Value) (t:Tr),ń w v->xt8->ó v->vY n t u:=by
 intro n
 induction n with
 |zero=>
  intro _ _ _ _ _ e _;show zlh
 | succ n D=>
  intro w v u t r e b;cases w with
  |int i=>
   show bH;rw[r.int_eq]at b;show b
  |str x=>
   show bH;rw[r.str_eq]at b;show b
  | tup g=>
   show jea;let#[ks,l,F]:=ό e;subst F;show zge a o q d p;cases b;let#[c,rv,j,E]:=jP q;refine#[a,c.toArray,rfl,j,?_];rw[IA];clear e r q j E
   induction g generalizing ks o c with
   |nil=>
    show A0 d;cases(zNc l);cases rv;show .nil
   |cons x g C=>
    let#[B,f,N,M,rfl]:=mapM_cons l;show Ao d y m A z;cases rv with
    |cons L J=>show ė (D x y _ B A N L) (C f M m z _ J)
  |_=>show zlh
abbrev QwL(K:Nk)(R:Rn)(g:Heap)(t:Tr)(u:Value):Prop:=∃a,u=Ä a/\IsQ g 8 t u/\ŵ R (toW t) ħ
def Qqi(I:á)(d:Ϧ):∀{ws:Ã} {b:Hu} {xs:Ø} {us:Ï},plL ws=sO b->zQe->Ϝ->Paired (QwL X.K R s.heap) b us/\ws=b.map toW:=by
 intro ws
 induction ws with
 |nil=>
  intro b xs us e r v;cases e;show(A0 r,ï v #[.nil,rfl])
 | cons w ws m=>
  intro b xs us e r v;cases w with
  | tup u=>
   unfold plL at e;show(ē t g q e,A4 j p q,Ao r y x c l);cases v with
   |cons v1 i=>
    let#[o,n]:=m p l i;let#[a,xs,rfl,_]:=qc d c;let f:=QqK 8 _ _ g;refine#[ė #[a,v1,Qro I d 8 _ _ _ _ c g v1,by rw[<-f];show c] o,?_];rw[Nw,<-f,<-n]
  |_=>simp[plL]at e
def Wu{b:ä g}{a:ä f}(p:uX F b a):∀y∈a,∃x∈b,F x y:=by
 induction p with
 |nil=>show zrh
 |cons r t e=>
  intro y h
  show Ŧ h
  show Ħ #[_,NF,r]
  ·let#[x,d,c]:=e y h;show#[x,C4 d,c]
#print"-"
abbrev One(c:Hu):Prop:=∃b a,∀t∈c,Wf 8 (.t (b::a)) t
#print"-Mi"
namespace Mi
open L2 Sb
open Classical in
abbrev Wy(ws:Ã)(h:MH):Þ:=match ws with
 |[a]=>(lsW h a).bind λb=>(plL b).bind λc=>if One c then zve else nO
 |_=>nO
def QlJ:∀{us:Ï},(∀u∈us,∃v:V,ó v)->∃xs:Ø,Ϝ/\qOi:=λ{us}=>by
 induction us with
 |nil=>show λ_=>#[[],.nil,rfl]
 |cons u us c=>
  intro h;let#[v,r]:=y0 u;let#[xs,b,a]:=c λu hu=>h u (NB _ hu);show#[v::xs,ė r b,congrArg (·+1) a]
section
variable{X:Cx}
def QaC(hu:Ł):Ĵ qh5 (Fs X.K Wy):=by
 intro C s σ H F B Q I r q;let#[R,h,ws,w,h',n,l,e,k]:=q;unfold Wy at e;split at e
 ·show jMg;let#[ts,e3,z]:=ĸ e2;split at z
  ·rename_i y;let#[d,b,y]:=y;cases z;show(ud v U l,jO F Y S n U e1,qw P r);let#[f,rv,pl,hl]:=Ad Y;let#[Z,_]:=Qqi I n e3 S rv;let i:qS3:=by rw[<-rv.length];show hl
   refine Us.sorted_tups (sh0:=d) (shs:=b) (vs:=f) TV pl.isList i (λu hu=>?_) λD g tk c B ln p kx hD hg=>?_
   ·let#[t,N,a,_,M,_]:=Wu Z u hu;show#[t,M,y t N]
   ·let#[j,L,J]:=QlJ λu hu=>let#[x,_,h]:=Wu rv u (p u hu);#[x,h]
    let#[E,m]:=n.fix (o:=À j) (I.hok.fresh hD);refine#[Ä D,_,I.laid (t':=tk) kx hD (fh c9  #[?_,B,c,L,hg]),rfl,k _ _ _ E m (Rw.unk D)];rw[J,ln];show i
  ·cases z
 ·cases e
#print"-"
#print"-Mi"
namespace L2
abbrev Itq(a:Addr)(n:Nat):It:=#[λi H=>i<n/\jP7,λi H x c=>c=H/\∀b,qBb->∃p,b[i]?=sO p/\x=sg,λi H=>n<=i/\jP7]
def Qel(I:Ĩ c)(e:H a=dz) :
  ∃es:kq,RawD s.heap a es kx.length/\qX5/\fq/\∀(i:Nat) p,kx[i]?=sO p->∃hi:je4,je5=sg:=by
 let#[z,y,t,r,o,es,v,n,m,l,f,u,j]:=I.hok _ _ e;let h:=N7 r;let b:qX5:=by rw[<-Ea,f,Nq,h]
 refine#[es,#[o,n,m,by rw[l,j,b]],b,y,Ú i p d];let hi:je4:=by rw[b];show lL d
 let#[q,g,q2]:=Vw r d;refine#[hi,?_];let:es.toList[i]?=sO (entryOfKey zPf q):=by rw[f,Np,g];rfl
 rw[Ee,NT hi]at this;rw[NZ this,q2.2.1];rfl
def QoK{K:Nk}(a it:Addr)(n:Nat):Turn P w K tg (Itq a n) [it] it (λi h=>i<=n/\h.IsKeyIter it a i n n) where
 mem:=Ç
 obj:=λi h st b j=>by
  show zm5
 keep:=jXf A
 item:=by
  intro X F hw J Y i f s S H E I y st D;subst F hw J;show(Γ x B t u D,qQi);obtain⟨p,U⟩:∃p,B[i]?=sO p:=#[B[i]'(zvj x),Nl _]
  show joc;let#[C,ek]:=hk i p U;show zka;rw[u]at q l;refine QbE (es:=m) (ep:=n) qJe q C λA g sb=>?_;rw[l]at g;let I1:xm f S A:=I.turned (t':=s.toks) (λb o j e=>(sb.2 b j).trans e) Q f1 N M L;show kA g;refine#[m[i].key,rfl,ox A #[sg,H,I1,ek,#[rfl,λaa r=>?_],ę x g,ur j y]];rw[t]at r;show ï r #[p,U,rfl]
 done:=by
  intro X F hw J Y i f s S H E I y st D;subst F hw J;show Γ x B t u D;obtain rfl:i=n:=Dr st.1 x;show(qQi,joc,zka);rw[u]at q l;show QfO (es:=m) (ep:=i) (Te Y) qJe q λA eb=>#[rfl,I.turned (t':=s.toks) zn6 Q f1 N M L]
 self:=λ_ _ _ _ _ st h=>YaM st.2 h
#print"-L2"
namespace Mi
open L2
abbrev XT(m:ME):MI:=λb h=>(m b h).bind λp=>match p.1 with
 |Ä n=>match p.2[n]? with|jqd=>sO (a.map (·.1),sO zf6,p.2)|_=>nO
 |_=>nO
def QhP{K:Nk}(o:n<R.N):ItOk K R (Itq ŕ ws.length) ws (sO zf6) where
 go:=λi w s h H x b g e=>by
  show zr6;rw[jgf]at a;refine#[à e,c,a,?_];rw[<-N7 j,<-l,Nq]
 yld:=λi w s h H x D e b g u A=>by
  show(BH B A,zr6);rw[e.ρ n o]at a;let#[p,z,rfl]:=B c a;rw[<-l,Np]at u;show A4 q v u;let#[C,t,y]:=Vw j v;rw[z]at t;show ï t #[s,CV,b,y.1]
 stop:=λi s h H x b g r=>by
  show zr6;rw[jgf]at a;show#[r,c,a,by rw[<-N7 j,<-l,Nq]]
section
variable{X:Cx}{tg a:Expr}{ma:ME}
def Qfr(P:uC):pD a (XT ma):=by
 intro i s A H C I q;let#[R,r,h,items,u,U,B,st,e,k]:=q;show į w p e1 l e;show ϸ (P i s A H (λv H1=>∃R1 n j c,AO R1/\Rh X.K R1 p H1/\v=Ä zei/\n<R1.N/\p[n]?=sO (Ř c)/\H1 zei=sO (.dT j)/\items=c.map (·.1)/\j.length=items.length/\u=sO zf6/\U=p) I #[R,r,h,w,p,B,st,e1,CD v t f]) (Ú v m #[x,H1,I1,E,R1,n,j,c,t,f,J,g,y,F,ei,Y,z,Z])
 ·cases w with
  |ref n=>
   show q8 l;split at l
   ·show(B3 c y l,fy j S Q f y,zie);let#[g,rfl]:=rv;show#[R1,n,j,c,t,f,rfl,g,y,S,rfl,by rw[<-N7 Q,Nq],rfl,rfl]
   ·cases l
  |_=>cases l
 ·subst J z Z;cases E;let#[z,D,L,lo,hk]:=Qel I1 F;refine Qbo lo D ?_;refine#[m.heap.objs.size,kC m,_,Itq zei items.length,H1,rfl,zZ m,QoK zei _ items.length,#[NQ _,_,Ű,rfl,?_],Ó b M,uU t f (QhP g)]
  ·rw[<-Y,L];rfl
  ·show zq2 m M
#print"-"
open Sb
abbrev Vu(a b:W)(h:MH):Þ:=(Kb h a).bind λc=>(nrm b).bind λk=>(Xi c k).map λv=>(v,h)
section
variable{X:Cx}{o i e a b:Expr}{mo mi mv ma mb:ME}{pos pos':Pos}
def Qo0(hu:Ł)(ha:uC)(hb:i9)(hs:Qst b):þ wE (Qe Vu ma mb):=by
 intro d s C H Q I q;refine QfN ON.lookup hs (ň (ha d s C H _ I sX) u P j);show Ŷ x U Z j;refine thn (hb d P C H1 _ I1 Z) λiv s2 j=>?_;let#[y,H2,I2,S,R,h,a,b,w,h',l,D,Y,e,k]:=j;unfold Vu at e;show(jL9 E e4,ť v g e6 e4,zEg);let#[kx,xs,hx,dr,zl,lo,rr,dd]:=Kr I2 l hn;show(zh4 f I2 l Y S e3,Š D);let#[ab,rfl]:=D;show Ck u U;let F:=jlh E;refine#[dd.typeIs,?_]
 rcases YM (k:=E) dr with z|⟨w',N,M,L,J⟩
 ·rw[z.1]at g;cases g
 ·show ð M g;rw[L]at F;let#[u',r,m]:=RelO.some_of F;show(yl p B t r,wpAny_getItem_heap zgg f dd B #[N,H2,I2.tok _,m,qL2 l J])
#print"-"
abbrev QbS(C:Addr)(h:MH)(w:W):Option (HP (Str×W)):=match w with
 |Ä n=>match h[n]? with|some (.ins a fs)=>if a=C then sO fs else nO|_=>nO
 |_=>nO
set_option backward.eqns.deepRecursiveSplit false in
abbrev QcY(f:Str)(v:W):ž W->ž W
 |[]=>jji
 |xpg=>if g=f then(g,v)::r else(g,x)::QcY f v r
abbrev Jp(C:Addr)(f:Str)(a:W)(h:MH):Þ:=(QbS C h a).bind λfs=>(fs.lookup f).map λw=>(w,h)
abbrev QaW(C:Addr)(f:Str)(o v:W)(σ:MSt)(h:MH):Tb:=match o with
 |Ä n=>(QbS C h Ε).bind λfs=>if rZ then sO (ì σ (Hq zF4))else nO
 |_=>nO
abbrev Qal(C:Addr)(f:Str)(mo mv:ME):SM:=λa h=>(mv a h).bind λv=>(mo a v.2).bind λo=>QaW C f o.1 v.1 a o.2
abbrev Gh(C:Addr)(m:Str)(n:Nat)(g:FM)(mo:ME)(ms:MA):ME:=λb h=>(mo b h).bind λo=>(QbS C o.2 o.1).bind λfs=>if(fs.lookup m).isNone then
 (ms b o.2).bind λa=>if(o.1::a.1).length=n then g (o.1::a.1) a.2 else nO else nO
abbrev Qir(C:Addr)(n:Nat)(g:FM)(ms:MA):ME:=λb h=>(ms b h).bind λa=>if a.1.length+1=n then
 (g (xe3::a.1) (a.2++dA)).bind λr=>match r.1 with|.non=>sO (xe3,r.2)|_=>nO else nO
section
variable{K:Nk}{R:Rn}{h:MH}{H:Hp}
noncomputable abbrev FR(K:Nk)(R:Rn):ž W->ž V->Prop:=Paired zyj
def FR.get(r:l4 b)(e:kB f=sO w):∃v,b.lookup f=sO v/\ù w:=by
 induction r with
 |nil=>cases e
 |@cons p q fs b z t d=>
  show jr3 c;cases a:f==g with
  |true=>rw[a]at e;show ï e #[y,rfl,c]
  |false=>rw[a]at e;show d e
def FR.none(r:l4 b)(e:kB f=nO):b.lookup f=nO:=by
 induction r with
 |nil=>rfl
 |@cons p q fs b z t c=>
  show jr3 d;cases a:f==g with
  |true=>show ð a e
  |false=>rw[a]at e;show c e
def FR.put(r:l4 a)(z:ù w):FR K R (QcY f w fs) (UT f v a):=by
 induction r with
 |nil=>show .cons znh .nil
 |@cons p q fs a y t c=>
  show(jKa e d,BH b y);unfold QcY UT;split
  ·show ė znh t
  ·show ė (ϊ b) c
def QaI(c:Đ)(e:QbS C h w=sO fs)(r:ù w):∃n b a,w=Ä n/\n<R.N/\wV/\H ŕ=sO (.ins C b a)/\l4 a:=by
 unfold QbS at e;split at e
 ·show iu n e
  ·rename_i l j d;split at e
   ·rename_i f;show Bc f e;let#[b,a,i,g]:=Hh c d;show(Š r,#[n,b,a,rfl,r.1,r.2,i,g])
   ·cases e
  ·cases e
 ·cases e
def Qfi(i:Đ)(e:QaW C f o v σ h=sO r)(g:ŵ R o x)(rv:ŵ R v y):∃n c a fs,o=Ä n/\n<R.N/\x=Ä ŕ/\H ŕ=sO (.ins C c a)/\a.length<1000/\r=lV (Hq zF4)/\l4 a:=by
 unfold QaW at e;split at e
 ·rename_i n;let#[fs,s,b]:=ĸ e;split at b
  ·show Α j b;let#[t,c,a,q,p,m,l,d]:=QaI i s g;show ï q #[n,c,a,fs,rfl,p,m,l,by rw[<-N7 d];show j,rfl,d]
  ·cases b
 ·cases e
#print"-"
section
variable{X:Cx}{C:Addr}{f m:Str}{o e value:Expr}{es:ā}{mo mv me:ME}{ms:MA}{pos pos' apos tpos:Pos}
def Qou(c:i6)(g:rY)(i:zg3)(j:qe7:=by rfl):þ zJ9 (mUn (Jp C f) me):=
 Q3 (QpB i j) λI H Q q=>JL (un1 q) λx H1 z=>by
  let#[R,h,a,w,N,b,d,E,k]:=z;let#[fs,D,B]:=ĸ E;show ť J A y B;let#[n,F,u,M,L,t,s,r]:=QaI b D d;show(ϧ v p l r A,#[_,C,F,u,v,t,s,c,g,p,k R H1 v Χ b l])
def Ql8(c:i6)(u:rY)(B:SE)(z:PM X value mv)(A:jX9:=by rfl):jC qec (Qal C f mo mv):=
 J0 (QnO B z A) λD U H q=>by
  let#[R,a,h,r,t,st,e,k]:=q;show į v l S Q e;show TJ w E P N Q #[R,a,h,v,l,t,st,S,λR1 H1 y g i j=>#[R1,a,l,w,E,i,BW g,P,AS R2 H2 x d b s]];let#[n,p,M,fs,g1,g2,g3,L,J,I,F]:=Qfi b N s (Sm d j);subst I;refine#[_,C,p,M,g3,L,c,u,J,ϱ R2 (Ę g d) (b.put g2 #[p,_,rfl,F.put (Sm d j)]) ((st.mono g).mono d)]
#print"-"
structure Mal(P:Program)(w:World)(K:Nk)(mg:Ē)(base:Heap)(k:Nat)(C:Addr)(x:Str)(ps:Á)(g:FM):Prop where
 ex:∃(f:Addr) (fd:FuncData),qc4/\xt9/\xO
structure MetAt(K:Nk)(C:Addr)(x q:Str)(st:Stmt)(ps:Á):Prop where
 ex:∃(f:Addr) (fd:FuncData),za0 q/\xt9/\xO
structure ClsAt(K:Nk)(mg:Ē)(C:Addr)(c:Str):Prop where
 cl:l8
 ms:zbg
 kp:zJ1
 mg:mg c=sO qy
def Ue{K:Nk}{C:Addr}{x q:Str}{st:Stmt}{f:Addr}{h:Value}{kV d pm cd ct:Value}
  (a:eS x=sO Ap) (i:RW) (l:jm f=sO #[h,m,.func (DE x q cP BR AC .none kV d pm g cd ct),j]) (c:IU K cd q=true) (k:xr)
  (b:∀(kV d pm:Value) (g:BG) (e ct:Value) (us:Ï),zC8 (zpc q d g e)):qQj:=
 #[f,_,QbB l c k,#[a,i,k],qPj]
section
variable{P:Program}{w:World}{K:Nk}{mg:Ē}{base:Heap}{C:Addr}
def Qov{st:Stmt}(d:qQj)(S:fD)(hN:zHe)
  (c:∀(f:Addr) (b:Value) (A:Around) (a:Ϟ) (s:Shared) (H:Hp) (E:XK),zG k q b->Qc1 (Qf9 CX0 P w K mg base N q AC f b A a s H E).nox BR m) :
  Mal P w K mg base (k+1) C x ps zVa:=by
 show zf7 g h d;show#[f,fd,Qpq F S hN (λb A a s H E e=>c f b A a s H E e),g,h]
#print"-"
section
variable{X:Cx}{C:Addr}{k n:Nat}{g:FM}{x c:Str}{ps:Á}{p pos apos:Pos}{o e:Expr}{es:ā}{mo:ME}{ms:MA}
def Qlf(cl:i6)(M:Mal X.prog X.w X.K X.mg X.base k C x ps g)(I:Sv)(J:SE)(Y:vp)(L:zc3:=by rfl)(S:Ab:=by rfl)(m:Ac:=by rfl)
  (E:Hr zz4=(do
   let y <-Hr o
   zLh
   let(f,first) <-holding [y] (getMethod y x pl)
   callWith pos f first (backTo pos qhb) (backToKw pos qm2)):=by rfl):þ zz4 (Gh C x n g mo ms):=by
 show zf7 N U M;subst L;refine Q3 (Qkz J cl N F I U .nil QhG Y (Zk S) (Jo m) E) (ś σ H Q q);let#[R,d,h,w,Z,D,st,e1,k]:=q;show į a B e2 e3 e1;let#[fs,e4,s]:=ĸ e3;split at s
 ·rename_i b;show o9 z e6 r s;split at r
  ·rename_i P;refine#[R,d,h,a,B,D,st,e2,CD v u i];let#[n,dx,fx,g1,g2,g3,g4,g5]:=QaI i e4 rv;refine#[_,dx,fx,g3,g4,g5.none (IF.mp b),R1,d,B,as,z,i,BW u,e6,λR2 H2 vs t l j=>?_];show#[R2,a::as,z,w,Z,P,l,Rws.cons (Rw.mono t _ _ rv) (by rw[EN];show j),r,k.ext (Ę u t)]
  ·cases r
 ·cases s
#print"-"
def QhM{K:Nk}{h:Heap}{c:Str}{C:Addr}(X:SX)(G:ub d)(f:F9 K mainGlobals c=sO (sO qy))(b:qKg)(hd:zbe)(po:zXg)
  (a:zy6) (mk:zbg) (e:zJ1):ClsAt K d C c:=
 #[#[b,hd,po,a],mk,e,FN X G f]
def Qtw{l:PySem.W.OpenLaw}{d:DefRec}{K:Params->Nk}{st:Stmt}{sem:Addr->FM}{k:Nat}(y:l.most=sO 63)(B:zKa)(U:zS1)(A:d.name="law")
  (hY:∀(w:World) (h:Heap),YP w h->ti)
  (Z:∀(kV c pm:Value) (I:BG) (g ct:Value) (s:Shared) (u:Value),BindsTo s (DE "law" "law" cP BR AC .none kV c pm I g ct) qIf [("script",u)])
  (F:∀(w:World) (i:Ē) (h:Heap),ti->ub i ->
   DefAt kY i "law" st si/\∀base:Heap,qN4->zQ3 i->∃C,Cal l.prog w kY i base k "law" si (sem C))
  (main:∀(C:Addr) (ns:ψ),xmc->∃h',sem C [zG8] []=sO (ξ,h')) :
  YbT q t XP YP l.row.toRowW d [] zL8:=by
 refine L2.QmL (n:=63) (k:=k) (x:="script") (CX:=λ_=>CX0) (sp:=λw vs H Q E=>vs.length=1/\∀C,spM kY 1 (sem C) vs H Q E) y Ñ B U hY ?_ ?_ λ_ _ _ _ _ z=>z
 ·intro w i fa h KX G b;let#[D,Fn]:=F w i h KX G;let#[f,fd,Fu,r,_]:=D.ex;rw[A]at b;show ð r b;let#[oc,od,kV,c,pm,I,g,ct,L,e,lk,Y]:=Fu.ex;refine#[fd,Ó s u,λbase S P=>?_]
  rotate_left
  ·let#[C,CC]:=Fn base S P;let#[f',aa,F',p,_,_,N,M,J,j]:=CC.ex;show ð r p;rw[lk]at j;cases j;show F'.imp λ_ _ _ _ z=>z.2 C
  rw[e];show Z kV c pm I g ct s u
 ·intro w H a ns X hO hS;refine#[rfl,ļ C];let#[h',e]:=main C ns X;refine#[#[λ_=>0,0,H,Β],[zG8],[],ξ,h',rfl,#[rfl,AD z,λn y=>ϟ y HD,λm n r=>ϟ r HD,(λn o z=>AF z),jGe,ck,jGe],?_,e,λR' H' v _ _ rv=>rv.bl_eq];refine Rws.cons ?_ Rws.nil;show#[a,_,rfl,hS,QaX ns]
abbrev Qvo(a:W)(ws:Ã)(h:MH):Þ:=match ws with
 |[b]=>zs1 ((Kc c k).getD .non,h)
 |_=>nO
abbrev QmJ(n:Nat)(k:Key)(v:W)(a:ą W)(h:MH):Þ:=match Kc a k with
 |è x=>Ď x h
 |none=>if yR then sO (v,ϝ (jv xrd))else nO
abbrev QcZ(a:W)(ws:Ã)(h:MH):Þ:=match a,ws with
 |Ä n,[b,v]=>(Ye h Ε).bind λc=>(YH b).bind λk=>QmJ n k v c h
 |_,_=>nO
abbrev QbW:Ã->Option (List Int)
 |[]=>sO []
 |Â i::r=>(QbW r).map (i::·)
 |_=>nO
section
variable{X:Cx}
def QkM(hu:Ł):Qb3 X "dict.setdefault" QcZ:=by
 intro L s σ H x xs v us Q I rx rv q;let#[R,h,a,ws,w,h',m,ra,l,e,k]:=q;unfold QcZ at e;split at e
 ·rename_i n b dv;show jL9 f c;let#[n',r,hn]:=Xu e1;cases r;let#[y,B,rfl,rb,J]:=Qga l;let#[uy,Y,rfl,Z,F]:=Y6 rv;let#[t,ey,M,N,i]:=m.dicAt ra hn;let eb:=VE rb e3;subst eb ey;show qy1;let#[z,hd,U,rel,dd]:=QlQ I.hok N;let d:=rel.val f;refine LQ DZ dd.typeIs L6 xs4 (kt_meets_setdefault zP8 _ (QaR Z) hd Y) #[U,dd,?_,zdc,λo u g hs=>?_]
  ·rw[<-N7 rel];show z
  ·rw[hp]at d
   rcases pB f i with z|⟨S,E,D,j,C⟩
   ·rw[z.2]at d;show C5 d
   ·unfold QmJ at c;show ð D c;rw[j]at d;show#[E,H,ų,d,ŀ m C]
  ·rw [o]at d
   rcases pB f i with P|⟨S,E,D,j,C⟩
   ·unfold QmJ at c;rw[P.1]at c;show yT c
    ·rename_i hl;cases c;let he:∃q,u.get? ŕ=sO q:=let#[q,_,_,hq,_]:=g;#[q,hq]
     let hz:(GH M f B).length<=sizeLine:=by
      let h1:=X8 M f B;let h2:=N7 i;lia
     show#[B,_,G5 (t':=jg) I (qfg N) hs he (QiP hz hd (rel.put f F) g),F,ϱ R Χ (m.put t #[_,rfl,QaK i J]) J]
    ·cases c
   ·rw[j]at d;show C5 d
 ·cases e
def QeN{K:Nk}:∀{a:Ã} {ns:ψ} {xs:Ø},QbW a=sO ns->SD a->xs=ns.map V.int:=by
 intro a
 induction a with
 |nil=>
  intro _ _ e r;cases e;show(i8 r,r)
 | cons y a d=>
  intro ns xs e r;show Ao r v g b c;cases y with
  |int i=>
   show(A4 h f (show(QbW a).map (i::·)=sO ns from e),Š b);rw[b,d f c];rfl
  |_=>cases e
#print"-"
#print"-Mi"
namespace Qd
open L2 Mi
section
variable{prog:Program}{w:World}{A:Around}{E:Ô}
noncomputable abbrev Kv:=Tr×zXa
abbrev PairQ(prog:Program)(w:World)(h:Heap)(v:Value)(p:Kv):Prop:=∃a o n,ϐ/\TB/\Mh/\o.data=.seq #[sg,p.2.2,] n/\xo h p
abbrev mrgQ(a ps:iM):iM:=ps.foldl (λb p=>storedH b p.1 p.2.1 p.2.2) a
def QnI(b:iM)(k:Tr)(a:Addr)(v:Value):(storedH b k a v).length<=b.length+1:=by
 unfold storedH;show zma
def QsB(h1:∀x∈c,xo h x)(h2:(Qi prog w).is h k a):∀x∈storedH c k a v,xo h x:=by
 unfold storedH;intro x b;split at b
 ·show Ż y d b;unfold Ybx;split<;>show h1 y d
 ·show Λ b
  ·show h1 x b
  ·cases ĳ b;show h2
def QeW(e:Sb.Ex h h'):∀{n:Nat} (k:Tr) (v:Value),sY k->xoj
 |0,_,_,x=>x.elim
 |_+1,.i _,_,x=>x
 |_+1,.s _,_,x=>x
 |n+1,.t _,_,x=>by
  let#[a,its,rfl,h1,h2]:=x;show#[a,its,rfl,h1.at λo q=>e a o q,Paired.mapP h2 λk v z=>QeW e k v z]
def Qe4(e:ze8)(hk:∀x∈a,xo g x)(b:∀o,zE D o)(m:zg2 h a):zg2 h' a:=by
 let#[o,p,q,n,l,j,i,_,f,d]:=m;show#[o,p,q,b _ n,l,j,i,λx c=>QeW e _ _ (hk x c),f,d]
def QrC{ps:iM}(hu:xaf)(hh:xR)(M:l≠I)(r:D≠I)(Q:D≠l)(J:∀b o,zCh->b≠I/\b≠D)(z:RX)(hp:∀(j:Nat) (v:Value) (p:Kv),zdi->zbj->PairQ prog w g v p) :
  ∀(k i:Nat) (s:Shared) (c:iM),xh3->xm4->qHa->RP->Sb.Ex g s.heap->(∀x∈c,xo g x)->DctE prog w s.heap D c->qN9 ->
  (∀h' tk,zg2 h' (mrgQ c xm5)->ze8->qdf)->jS8:=by
 show qmj M
 induction k with
 | zero=>
  intro i s c hk hi m h ex f hD hz P t;let N:xse:=Ð
  subst N
  refine Dt Dc.e_upd (by
   rw[xmd];refine(wc (qX0 (ę m h) y));let d:ze8:=qgh;refine(show jY7 from Na (Nn (Nn (P h' tk ?_ d))));rw[Yas (Nv z)]
   show qa5)
 | succ k ih=>
  intro i s c hk hi m h ex f hD hz P t;let q:xsf:=Ð
  refine Dt Dc.e_upd (by
   rw[xmd];refine(wc (W.item i s _ _ q (ę m h) λv h' tk hv u y=>?_));let d:ze8:=qgh;let B:xz3:=uq z q
   let#[a,o,n,rfl,h1,Z,Y,h4]:=hp i v ps[i] hv (Nl B);let C:=d a o h1;refine(show qad from Na (N9 (Na jTe)));show(jug C Z,Ϫ (Nn (show wpAny _ A.in1 (holding [.ref zcd,zce] (dictSet D (.ref zcd) zce)) _ _ _ from N9 ?_)));let X:zg2 h' c:=qa5;refine YQ (s:={ s with heap:=h',toks:=tk }) (show vy+8<cLine by lia) (QeW d _ _ h4) X Í (Ú Z U H);let aa:Sb.Ex g Z:=λb o e=>by rw[H.2 b (J b o e).2];show d b o e
   show Ϫ #[xme,ih (i+1) _ (storedH c zg5 zcd zce) Í q (u.1.at λo e=>kh H I (N8 r)) (jGd u H) aa (QsB f h4) U (by let:=QnI c zg5 zcd zce;lia) (λY F S L=>?_) _];refine P Y F ?_ L;rw[Ek B]
   show S)
variable{s:Shared}
def call_pairsQ{ps:iM}(hu:A.units+16<cLine)(H:Ξ)(B:qD=jwa M)(z:RX)(hz:zK9)
  (J:∀(j:Nat) (v:Value) (p:Kv),zdi->zbj->PairQ prog w s.heap v p)
  (h:∀h' tk,DctE prog w h' s.heap.objs.size (mrgQ [] ps)->Sb.Ex s.heap h'->gP):ò qi5:=by
 show jsh c i;let a:DctE prog w (s.heap.push { cls:=xz,data:=kZ }) s.heap.objs.size []:=#[_,_,_,Ű,xJ,rfl,rfl,Ç,Ç,rfl]
 let ty:Shared.TypeIs { s with heap:=zz } AZ "dict":=Heap.DictOfH.typeIs (s:={ s with heap:=zz }) a.of;show jI3 f B d;refine#[ty,Ybe _ _,?_];show(ĵ (Na (Fe ty (show ż qw5 from Nn (show ż jZ2 from ?_)))),jE5 d,ĵ (Dc.keys_miss d (ν H) (Ú q t n)),Ŵ zd3,Ê (ql0 q t n d));let y:Sb.Ex s.heap jma:=jMj n
 let u:s.heap.objs.size<q.objs.size:=by
  show xdj a n
 let D:DctE prog w jma s.heap.objs.size []:=Qe4 y Å (λo e=>Ś (n _ _ e)) a;show Ϫ #[xme,QrC (l:=l) (g:=s.heap) (items:=items) (ps:=ps) (by apply vy+12<cLine;lia) (ν H) (NK (N2 f u)) jj2 (EB f) (λb o e=>#[NK (N2 CT u),NK CT]) z J zQh 0 _ [] rfl Ō Tv (zUi y B) y Å D qLd (λL r C x=>?_) _];show#[rfl,h L r (ĝ C) x]
#print"-"
#print"-Qd"
namespace Mi
open L2
set_option backward.eqns.deepRecursiveSplit false in
abbrev prQ:Ã->Option (HP xta)
 |[]=>sO []
 |zw9::r=>(nrm k).bind λt=>(prQ r).map ((t,k,x)::·)
 |_=>nO
abbrev mgQ(a:ϙ)(ps:kr):ϙ:=ps.foldl (λb p=>US b p.1 p.2.1 p.2.2) a
abbrev mgX(a:Ő)(ps:Ő):Ő:=ps.foldl (λb p=>QaB b p.1 p.2.1 p.2.2) a
abbrev Xd(ws:Ã)(h:MH):Þ:=match ws with
 |[a]=>(lsW h a).bind λc=>(prQ c).bind λb=>if b.length<=10000000 then sO (ģ,h++[Ŏ (mgQ [] b)])else nO
 |_=>nO
section
variable{X:Cx}{pins:Ý}{σ:L2.St}{H:Hp}{s:Shared}{R:Rn}{h:MH}
noncomputable abbrev PrR(K:Nk)(R:Rn):kr->Ő->Prop:=Paired λp q=>zj1/\Rw K R p.2.1 zDa/\nrm p.2.1=pv/\Rw K R p.2.2 q.2.2
def QmO(I:á)(m:Ϧ):∀{b:Ã} {ps:kr} {xs:Ø} {us:Ï},prQ b=sO ps->cK b->Ϝ ->
  ∃(kx:Ő) (vs:jbj),PrR X.K R ps kx/\QcC kx vs/\qQa/\∀(j:Nat) (u:Value) (p:Qd.Kv),xw4->xx3->Qd.PairQ X.prog X.w s.heap u p:=by
 intro b
 induction b with
 |nil=>
  show jA1
 | cons f b N=>
  show zNd
  obtain⟨k,x,rfl⟩:∃k x,f=zw9:=by
   cases f with
   |tup l=>
    cases l with
    |nil=>cases e
    |cons k l=>
    cases l with
    |nil=>cases e
    |cons x l=>
    cases l with
    |nil=>show jqf
    |cons _ _=>cases e
   |_=>cases e
  show ē y B U e;let#[qs,S,Q]:=ό U;show jqh Q q J;cases v with
  |@cons _ u _ us hu tu=>
  let#[kx,vs,d1,d2,Z,Y]:=N S J tu;show Š q;let#[a,vz,rfl,L,q2]:=q;let#[M,P,#[o,g1,g2,n,g3],_]:=I.tuple (ZF m.sub L);show vZ z1 C i F q2;let#[u1,g,rfl,E,D]:=Y6 P;show zh4 d I m i E B;obtain rfl:MZ:=hu;refine#[(y,c,C)::kx,(y,c,g)::vs,ė #[rfl,i,B,F] d1,ė (jlg D) d2,AJ Z,λj u p A t=>?_];cases j with
  |zero=>
   let f1:Bv a=u:=ø A
   let f2:(y,c,g)=p:=ø t
   subst f1;show Ϗ f2 #[a,o,n,rfl,g1,g2,g3,d]
  |succ j=>show Y j u p (ĝ A) (ĝ t)
def QdR{K:Nk}:∀{ps:kr} {kx:Ő} {c:ϙ} {e:Ő},PrR K R ps kx->DctR K R c e->DctR K R (mgQ c ps) (mgX e kx)
 |_,_,_,_,.nil,d=>d
 |_,_,_,_,zHg,d=>by
  apply DctR K R (mgQ (US _ p.1 p.2.1 p.2.2) _) (qNj q);rw[h.1];show QdR t (Ux d h.2.1 (ϳ h) h.2.2.2)
def Qdw:∀{kx:Ő} {vs:jbj} {c:Ő} {e:jbj},QcC kx vs->QcC c e->QcC (mgX c kx) (Qd.mrgQ e vs)
 |_,_,_,_,.nil,d=>d
 |_,_,_,_,zHg,d=>by
  apply QcC (qNj p) (Qd.mrgQ (storedH _ q.1 q.2.1 q.2.2) _);rw[h.1,h.2.1];show Qdw t (Ul d h.2.2)
def Qlg:∀(kx a:Ő),(mgX a kx).length<=a.length+kx.length:=by
 intro kx
 induction kx with
 |nil=>
  intro a;show NA _
 |cons p kx c=>
  intro a;let e:=c qE1;let d:=Yu (kx:=a) (k:=p.1) (b:=p.2.1) (v:=p.2.2);apply(mgX qE1 kx).length<=_;rw[NP];lia
def UW(hc:ı)(hu:Ł):Ĵ Rk (Fs X.K Xd):=by
 intro pins s σ H L us Q I r q;let#[R,h,ws,w,h',l,d,e,k]:=q;unfold Xd at e;split at e
 ·show zpa B x
  ·rename_i hz;cases x;show(ud v U d,jO L Y S l U e1,jJc P t n Y);let#[E,N,J,F,d3,d4]:=QmO I l e3 S rv;let l1:=N7 J;let l2:=N7 F;let#[#[oc,aa,ab,Z],m,n,D,C,c]:=n;dsimp only at D C c;subst D C c;let ae:10000000<=sizeLine:=õ
   refine Qd.call_pairsQ (ps:=N) (items:=t.toArray) TV fz n (ĝ d3) (by rw[ND];lia) qd5 xa6;let hp:=PH;let#[R3,M,i,f]:=l.new (mo:=Ŏ (mgQ [] B)) (o:=.dT (mgX [] E)) hp (Ľ R' y #[_,rfl,Paired.mapP (QdR J .nil) (ql6 y)])
   let#[o,es,ep,b1,b2,b3,b4,_,b6,b7]:=dd;refine#[δ s,_,zm2 (fh (.dT _) #[?_,?_,_,Qdw F .nil,o,es,ep,b1,b2,b3,b4,b6,b7]),rfl,ϱ R3 M i f]
   ·let:=Qlg E [];show Ϯ;lia
   ·show jYe
  ·cases x
 ·cases e
#print"-"
#print"-Mi"
namespace L2
def QgN:typeLookup qv2 "__len__"=Hn:=by
 show bV
def QjN:typeLookup qv2 "__length_hint__"=pure (sO (.builtin "list_reverseiterator.__length_hint__")):=by
 show bV
section
variable{prog:Program}{w:World}{A:Around}{E:Ô}{s:Shared}{r d:Addr}{its:Ń}
def QlZ{Q:yi}(e:s.TypeIs yn "list_reverseiterator")(h:jd7):ò (xm1 yn):=by
 show Ê (DN e QgN (show wpAny _ A (specialOf (cR r) (Str.ofString "__length_hint__")>>=_) _ _ _ from Na (DN e QjN ?_)));generalize a:("list_reverseiterator.__length_hint__":String)=c
 show(qt4 ("list_reverseiterator","__length_hint__"),Na (Ij (b:=true) e Rp zX7))
def Qdi{R:w9}(B:Ξ)(hit:qh0)(z:qR0)(S:Addr)(m:S≠r)(t:S≠d)(n:d≠r)(res:Value)(g:Nat)(hS:ů s S=sO { cls:=Ī,data:=.seq #[] g })(y:fV)
  (D:∀h' tk a j,(∀b o,b≠S->b≠r->TC)->uM S=jvi j->jZe->jh8 R qAa h') :
  wpAny ŝ A.in1 (jy5 S r)
   (jtd h j) (qKb h) s:=by
 let W:=Walks.listRev (prog:=prog) (w:=w) (A:=A.in1) B r d n its;show Ê (DP (T:="list_reverseiterator") hit.typeIs ?_);let F:Builtin.List.listSameRef MN yn=false:=qs2
 rw[if_neg (by rw[F];decide)];show(Ê (LZ hit (Na (N9 (QlZ hit.typeIs ?_)))),zMf);let q:S∉[r,d]:=by simp[m,t]
 show Ϫ #[jkc,YaP W.toS y S q res its.size 0 _ #[] g rfl Ō #[NQ _,by simpa using hit,z] hS qWh (AS h a j x u l)];rw[Moved.eq_with x];refine D h.heap h.toks a j (λb o C p e=>x.heap b o (q5 c) e) u l
 rcases HN c with H|c
 ·show C H
 ·show p (Nz.mp c)
def Qmv{Q:Ô}(B:Ξ)(hit:qh0)(x:qR0)(l:d≠r)(z:fV)
  (C:∀h' tk a q,(∀b o,b≠r->TC)->zNb h'=jvi q->jZe->gP) :
  ò (call CI [Ä r]):=by
 refine YaB (Q₁:=λobj c=>zw7/\c={ s with heap:=s.heap.push { cls:=Ī,data:=zi2 } }) PySem.F.called_list (PySem.F.typeCall_list_1 _) PySem.F.entry_list_init (code_list_new _ ζ) λobj c g=>?_;show yW g;let hS:(s.heap.push { cls:=Ī,data:=zi2 }).get? s.heap.objs.size=sO { cls:=Ī,data:=zi2 }:=Ű;let u:r<s.heap.objs.size:=let#[_,j,_]:=hit;NL j
 let t:d<s.heap.objs.size:=let#[_,j,_]:=x;NL j
 refine#[zS9,PySem.F.args_list_init_2 _ _,?_];refine(show ż (do let old <-Builtin.List.listItems AZ;Builtin.List.listUpdate AZ xtb;letGo old.toList.reverse;jX2) from Na ?_);show Ê (F5 hS rfl υ);refine(show ż (updateSeq s.heap.objs.size xtb>>=λ_=>letGo (#[]:Ń).toList.reverse>>=λ_=>jX2) from Na (LU hS rfl ?_));let n:=Ez jC0 hS rfl
 let f:∀b o,b≠s.heap.objs.size->Ϲ->((s.heap.push { cls:=Ī,data:=zi2 }).update s.heap.objs.size jC0).get? b=sO o:=
  λb o m e=>zgd (N8 m) Sz
 show Ê (wpAny_letGo ?_);refine Qdi (A:=A.in1) B (hit.at λo e=>f r o jj2 e) (x.at λo e=>f d o (NK t) e) _ (EB u) (EB t) l .none _ n z λh' tk a q hk p h=>?_;show#[rfl,C h' tk a q (λb o m e=>hk b o kQ m (f b o kQ e)) p h]
#print"-"
#print"-L2"
namespace Mi
open L2
set_option backward.eqns.nonrecursive false in
abbrev GY(ws:Ã)(h:MH):Þ:=match ws with
 |[a]=>kI (ģ,h++[.lst ws.reverse])
 |_=>nO
def Rws.reverse{K:Nk}{R:Rn}:∀{ws:Ã} {vs:Ø},ϥ->Rws K R ws.reverse vs.reverse:=by
 intro ws
 induction ws with
 |nil=>
  intro _ h;show zw1
 |cons w ws a=>
  intro _ h;show vD h;let#[v,vs,rfl,c,b]:=h;rw[FV,FV];show Rws.append (a b) (Rws.cons c Rws.nil)
section
variable{X:Cx}
def Qco{p1 Z m l:Pos}(hc:ı)(hg:Gl X "list")(hm:X.mg "list"=nO)(D:zQg)(A:zN1)(he:zg3)(hs:Ab:=by rfl) :
  þ (.Call (.Name "list" p1) [.Call (qH6 Z) [e] [] l] [] m) (mFn GY zYg):=by
 refine QiL (ŧ û) hg hm Dy D A boot_reversed û he hs Ñ λF g σ H1 Q R2 t I a w v u I1 P i S e3 kk=>?_;show(ť L e8 e9 e3,jO E Y U i S e8,qjb P z H Y C);let hk:∀b o,ů g b=sO o->(g.heap.push { cls:=zEh,data:=zz3 }).get? b=sO o:=fQ;let J:(g.heap.push { cls:=zEh,data:=zz3 }).objs.size=g.heap.objs.size+1:=DY ..;let B:ad<g.heap.objs.size:=let#[_,ho,_]:=z.isList;NL ho
 refine Qmv (s:={ g with heap:=g.heap.push { cls:=zEh,data:=zz3 } }) (its:=d.toArray) (I1.ok.hd hc) Tv (z.isList.at λo e=>hk _ o e) (NK B) (eJ C H) λI tk f c kp eL h=>?_
 let hv:Vals E.reverse f.toList:=by
  let:f.toList=d.reverse:=by
   show cB;let t:=h.1;rw[ND]at t
   show lZ r j d
   ·let n:j<f.size:=Ng r (ī t);let:=h.2 j f[j] (NT n);rw[ND,Fi]at this;rw[Ee,NT n,LB r,this]
   ·rw[NY (by simpa[t]using N4.mp r),NY (by simpa using N4.mp r)]
  rw[this];show Vals.reverse rv
 let hp:=I1.hok.fresh (D1 g.heap.objs.size);let#[R3,M,y,x]:=i.new (mo:=.lst L.reverse) (o:=.lst E.reverse) (p:=bG g) hp (Ľ R' N #[_,rfl,So N (Rws.reverse U)])
 let q:=eL;rw[J]at q ⊢;show#[Ä (g.heap.objs.size+1),_,I1.laid (t':=tk) (λb o e=>kp b o kQ (hk b o e)) iW (nh I c9  #[by rw[Er];show H,f.toList,c,hv,by rw[q]]),rfl,kk R3 _ _ M y x]
#print"-"
abbrev Qoi(ws:Ã)(h:MH):Þ:=match ws with
 |[Î b]=>(txW b).bind λa=>if a.length<4000/\(St.uniq a).length<64 then sO (ģ,h++[À (xNj a)])else nO
 |_=>nO
abbrev YR(ns:ψ):Int:=ns.getD (argBest qda zSc) 0
abbrev QcN(ws:Ã)(h:MH):Þ:=match ws with
 |[a]=>(lsW h a).bind λc=>(QbW c).bind λb=>if 0<b.length then sO (Â (YR b),h)else nO
 |_=>nO
section
variable{X:Cx}
def QcO(U:ı):Ĵ zNi (Fs X.K QcN):=by
 intro C s σ H D us Q I r q;let#[R,h,ws,w,Z,B,x,e,k]:=q;unfold QcN at e;split at e
 ·show zpa a z
  ·show(Α N z,ud v L x,jO D M J B L e1,qw F r);let ex:=QeN e3 J;subst ex;let#[c,rv,y,hl]:=Ad M;let d:c.length=a.length:=by rw[<-rv.length,Nq]
   let n:ad<s.heap.objs.size:=let#[_,S,_]:=y.isList;NL S
   refine call_max_walk (FX y.isList #[s.heap.objs.size,_,_,_,_,_,zA5,rfl,YaO (show X.A.in1.handled=nO by simp[I.ok.hd U]) _ ad (NK n) c.toArray,#[Tv,y.isList.push _],Ó b p,by rw[ND,d];show N,CmpOf.ints_gt (λi=>a.getD i 0) (Ú i v P),λv Z tk Y hk=>?_])
   ·let l:=DY s.heap { cls:=nN,data:=.fields #[zj7,Ry,] };simp only[NJ,FF,or_false]at p
    show jli p
    ·show Ng B9 (ī l)
    ·show Ng (E4 n) (ī l)
   ·let m:c[i]?=sO v:=ø P
    let f:=à m;rw[d]at f;let#[E,g1,g2]:=rv.get (show(a.map V.int)[i]?=sO (V.int a[i]) by rw[Np,Nl f];rfl);show(ð m g1,Ċ g2);show#[t,by rw[EH,Nl f];rfl]
   ·let g:c[argBest zA5 (c.toArray.size-1)]?=sO v:=ø Y
    rw[ND,d]at g;let f:=à g;rw[d]at f
    let#[E,g1,g2]:=rv.get (show(a.map V.int)[argBest zA5 qsg]?=sO (V.int (YR a)) by
     rw[Np,Nl f];unfold YR
     rw[EH,Nl f];rfl)
    show ð g g1;refine#[Â (YR a),H,I.kept (t':=tk) λb o e=>hk b o (q5 p) Sz,g2,ŀ B zd3];rw[ĳ p]at e;show č CT cM
  ·cases z
 ·cases e
#print"-"
section
variable{X:Cx}
def Qh2{k n:Nat}{C:Addr}{c:Str}{ps:Á}{g:FM}{p pos:Pos}(s:ClsAt X.K X.mg C c)(M:Mal X.prog X.w X.K X.mg X.base k C "__init__" ps g)(I:zPa)(N:Gl X c)(J:zc3:=by rfl)
  (j:(c==bY)=false:=by decide):þ (.Call (.Name c p) [] [] pos) (Qir C n g Qc):=by
 show zf7 u P M;subst J;refine Q3 (Qht #[s.ms,u.at_,u.fn,s.kp] F I N s.mg P .nil QhG j) (ś σ H Q q);let#[R,z,h,w,h',E,st,Z,k]:=q;show o9 h1 Y m Z;cases Y;split at m
 ·rename_i L;show į r S U l m;intro x y nx nd ne;let#[B,i]:=E.fix (o:=.own x) nd;let#[R3,D,e,b]:=i.new (mo:=.ins C []) (o:=.ins C y []) (p:=x) (by rw[Qz (N8 ne)];show nx) λR' _=>#[y,[],rfl,.nil]
  rw[EN];split at l
  ·show(Α a l,lX a);subst a;refine#[R3,[ģ],h++dA,.non,S,L,e,Rws.cons b (by rw[Rws.nil_iff]),U,λR4 H4 v t d rv=>#[by show(zie,rv),?_]];show k R4 H4 _ (TW B D t) d (Sm t b)
  ·cases l
 ·cases m
#print"-"
def Qev:∀{vs:Ï} {a:ψ},IntsAre vs a->Vals (a.map V.int) vs
 |_,_,.nil=>.nil
 |_,_,.cons _ t h=>ė yX (Qev h)
def QpK{K:Nk}{h:Heap}{x:Str}{c:Addr}{n:Nat}(X:SX)(G:ub d)(a:zuh)
  (l:jA9) (hz:fV) (e:IntsAre its.toList b):Glob K d x (ġ (b.map .int)):=
 #[Ä c,_,iB,rfl,λR=>by
  show#[c,_,rfl,ô #[_,its,n,l,rfl,rfl,hz,Qev e],QaX b]]
#print"-Mi"
namespace L2
open PySem.SeqAt
def QlM{prog:Program}{w:World}{A:Around}{E:Ô}{s:Shared}{d:Addr}{xs:yI}{Q:Ô}(hu:qX2)(hd:fu)(a:qo1)(h:zvb (.bool false)):ò (compareOp .In .none ML):=by
 apply wpAny _ _ (do return .bool (<-contains ML .none)) Q E s;show uV;unfold contains
 show qn7
 show Ê (DN a.typeIs Iv.lookup ?_);apply wpAny _ _ (BJ (sO (Value.builtin "dict.__contains__")==xm6)) _ E s;show qsf
 refine Na (wpAny_callSpecialUnlessNone?_slot (name:=Str.ofString "__contains__") a.typeIs Iv
  (Eu Iv a.typeIs PySem.F.entry_dict_contains ?_ (PySem.F.args_dict_contains_2 _ _)))
 apply Ň qHb;let#[o,g,i,c,_,hD,e,b,f]:=a;show jth e b;refine Nn ?_;apply ż (Builtin.Dict.pendingKey? d .none>>=_);show Na (wpAny_pendingKey_other hd (AU #[_,rfl,OA zX7]))
#print"-L2"
namespace Mi
open L2
abbrev QbT(b a:W)(h:MH):Þ:=match b with
 |.non=>jL6 CA
 |b=>Wa false b a h
def QhF{X:Cx}(hu:Ł):ë tT (F2 X.K QbT):=by
 intro c s l H x y v u Q I i g m;let#[R,h,a,b,w,r,d,j,f,e,k]:=m;unfold QbT at e;split at e
 ·show(ť o B t e,du q B);let#[D,C,E,F,z,lo,rr,dd]:=Kr I d q;show(xsh p x j v i,zr5 g);show QlM (show wH by show zDc) lo dd (zpj ų d)
 ·show Qml hu c s l H x y v u Q I i g #[R,h,_,_,w,r,d,j,f,e,k]
abbrev GN(ws:Ã)(h:MH):Þ:=match ws with
 |[a]=>(Ye h a).map λb=>(À (zX2 b),h)
 |_=>nO
def Qkm(p:Pairs (Jh prog w) es vs):∀{kx:ą V},jh9->Vals (kx.map xA2) (es.map (·.key)):=by
 induction p with
 |nil=>intro kx h;cases h;show .nil
 |cons hk _ _ c=>
  intro kx h;obtain _|⟨e,d⟩:=h
  refine .cons ?_ (c d);apply RelV (kV _) (DictEntry.key _);rw[e.1]
  rcases Za hk with⟨i,t,b,a⟩|⟨x,t,b,a⟩
  show qHg
  show qHg
section
variable{X:Cx}
def Qac(hc:ı):Ĵ CI (Fs X.K GN):=by
 intro D s σ H xs us Q I r q;let#[R,h,ws,w,F,C,x,e,k]:=q;unfold GN at e;split at e
 ·show ť c e1 e2 e;let#[n,rfl,hn]:=Xu e1;show(ud v P x,PN N r);let#[_,rfl,m,E,L]:=C.dicAt P hn;show Ck u N;let#[z,lo,vs,rel,o,d,J,h1,h2,h3,_,h4,_]:=QlQ I.hok E;let t:=Qkm h4 rel;let f:d.size=m.length:=by let:=t.length;simpa using this.symm
  refine OW (zUh d J) fz #[o,h1,h2,h3] (j7 f z) λF tk b c' Y eL a=>?_
  let ha:b.toList=d.toList.map (·.key):=by
   show cB;rw[Np]
   by_cases i:j<d.size
   ·let g:j<b.size:=by rw[a.1];show i
    show qq2 B a;rw[NT i]at l;cases l;rw[Ee,NT g,B,Ee,NT i];rfl
   ·let U:qT9:=by rw[Ea,a.1];show jcf
    let S:d.toList.length<=j:=by rw[Ea];show jcf
    rw[NY U,NY S];rfl
  rw[<-ha]at t;let hp:=PH
  let hr:uK (zX2 c) (m.map xA2):=by
   let e:=Qbn L;rw[show(zX2 c)=(c.map (·.1)).map kW by rw[Ec];rfl,e,Ec];clear e L E rel t f z
   induction m with
   |nil=>show cT
   |cons q m Z=>show Rws.cons Qp1 Z
  let#[R3,M,A,y]:=C.lstI (p:=s.heap.objs.size) hp hr;refine#[δ s,_,I.laid (t':=tk) Y ĕ (nh F c9  #[zMj z,b.toList,c',t,qZf]),rfl,ϱ R3 M A y]
 ·cases e
#print"-"
section
variable{p:Ï->Prop}
def ar0(h:p [])(us:Ï)(e:us.length=0):p us:=List.eq_nil_of_length_eq_zero e▸h
def arS{n:Nat}(h:∀a us,us.length=n->p (a::us)):∀us:Ï,us.length=n+1->p us
 |a::us,e=>h a us (Nat.succ.inj e)
def ar1(h:∀a,p [a]):∀us:Ï,us.length=1->p us:=arS λa=>ar0 (h a)
def ar2(h:∀a b,p [a,b]):∀us:Ï,us.length=2->p us:=arS λa=>ar1 (h a)
def ar3(h:∀a b c,p [a,b,c]):∀us:Ï,us.length=3->p us:=arS λa=>ar2 (h a)
def ar4(h:∀a b c d,p [a,b,c,d]):∀us:Ï,us.length=4->p us:=arS λa=>ar3 (h a)
def ar5(h:∀a b c d e,p [a,b,c,d,e]):∀us:Ï,us.length=5->p us:=arS λa=>ar4 (h a)
def ar6(h:∀a b c d e f,p [a,b,c,d,e,f]):∀us:Ï,us.length=6->p us:=arS λa=>ar5 (h a)
#print"-"
section
set_option genInjectivity false
set_option backward.match.sparseCases false
abbrev Vc:Expr->Nat
 | .Call f a _ _=>match a with
  |[]=>match f with
   |xmf=>1
   |_=>2
  |_=>1
 |xqj=>3
 |.Compare ..=>4
 |.BoolOp ..=>4
 |.IfExp ..=>4
 |.UnaryOp o _ _=>match o with
  |.Not=>4
  |_=>1
 |.Tuple ..=>5
 |.Name ..=>1
 |.Constant ..=>1
 |.BinOp ..=>1
 |.Subscript ..=>1
 |xmf=>1
 |.List ..=>1
 |.Dict ..=>1
 |_=>0
structure EOk(e:Expr):Prop where
 fold:∀env x,foldedSetIterable e env x=pure x
 ix:Uu e
 star:Ab
 stE:∀env r,starEach (e::r) env=jOg::starEach r env
 mark:∀op,behindInMarks op e=false
 put:∀env o p v,assign (.Subscript o e p) env v=(do
   let ov <-holding [v] (uJ o)
   let iv <-holding [v,ov] (uJ e)
   standAt p
   holding [v,ov,iv] (setItem ov iv v)
   release [v,ov,iv] [])
 comp:iD->Sw
 attr:Vc e≠2->∀env f,qgf
 tru:Vc e≠4->∀env whole,PySem.isTrue e env whole=(jW6 e)
 sto:Vc e≠5->∀env es k p,swappedStores [.Tuple es k p] e env=Hn
def Ze{e:Expr}(h:B4):EOk e:=by
 let no:∀n:Nat,n≠n->False:=λ_ z=>z rfl;cases e with
 |Call f a k p=>
  refine#[Ŗ,Ŗ,rfl,Ŗ,ſ,eC,ſ,?_,jR,tL];intro b v g;cases a with
  |cons=>show ST f
  |nil=>cases f<;>first|rfl|show(b rfl).elim
 |UnaryOp o a p=>cases o<;>show#[Ŗ,Ŗ,rfl,Ŗ,ſ,eC,ſ,jR,jA2,tL]
 |_=>first|show(h rfl).elim|show#[Ŗ,Ŗ,rfl,Ŗ,ſ,eC,by first|show ſ|show zG3,jR,jA2,by first|show tL|show zG3]
structure Fc where
 d:Nat
 x:Str
 C:Addr
 k:Nat
 ps:Á
 g:FM
structure Wd where
 P:Program
 w:World
 K:Nk
 mg:Ē
 base:Heap
abbrev Fc.okd(Z:Wd)(x:Str)(f:Fc):ie
 |0=>Z.mg x=nO
 |1=>Cal Z.P Z.w Z.K Z.mg Z.base f.k x f.ps f.g
 |2=>xA3/\Mal Z.P Z.w Z.K Z.mg Z.base f.k f.C x f.ps f.g
 |3=>ClsAt Z.K Z.mg f.C x/\Mal Z.P Z.w Z.K Z.mg Z.base f.k f.C "__init__" f.ps f.g
 |_=>xA3/\NoAttr Z.K f.C x
abbrev Fc.ok(Z:Wd)(f:Fc):Prop:=f.okd Z f.x f.d
structure Cf where
 N:Á
 sc:Scope
 k:Nat
 fn:Bool
 t:Tj
structure CxOk(c:Cf)(X:Cx):Prop where
 N:X.N=c.N
 nd:X.N.Nodup
 sc:X.env.scope=c.sc
 cal:ı
 xe:zF
 rm:Room c.k X.A
 fn:c.fn=true->∀x,kE
 ce:∀x,(u3=Ae\/u3=jX)->∃a,tR x=sO a
 tb:∀f∈c.t,f.ok qv3
def CxOk.hu(k:ω):Ł:=k.rm.units
noncomputable abbrev MM(a:Type):=Nat->Option (a×Nat)
structure RM(c:Cf)(α:Type)(p:Cx->α->Prop) where
 m:α
 h:∀X,ω->p X m
section
variable{α β:Type}
abbrev Zr(x:MM α)(f:α->MM β):MM β:=λn=>match x n with
 |some (a,n)=>f a n
 |none=>nO
abbrev Zq(a:α):MM α:=λn=>Ď a n
abbrev coMo(o:Δ α)(f:α->MM β):MM β:=λn=>match o with
 |è a=>f a n
 |none=>nO
abbrev Qbs(f:Nat->MM α):MM α:=λn=>f (n%32) (n/32)
abbrev VY(p:Prop)[Decidable p](f:p->MM α):MM α:=λn=>if h:p then f h n else nO
#print"-"
abbrev YF(x:Str):(l:Á)->Option {i:Nat // l[i]?=sO x}
 |[]=>nO
 |y::l=>if h:y=x then sO #[0,SC h]else(YF x l).map (jw r #[r.1+1,r.2])
abbrev U9(d:Nat)(x:Str):(t:Tj)->Option {f:Fc // f∈t/\zVi}
 |[]=>nO
 |f::t=>if h:zVi then sO #[f,.head _,h]else(U9 d x t).map (jw r #[r.1,.tail _ r.2.1,r.2.2])
def CxOk.fc(k:ω)(r:{f:Fc // f∈c.t/\zVi}):r.1.okd qv3 x d:=by
 let#[f,h,rfl,rfl]:=r;show k.tb f h
def CxOk.gl(k:ω)(h:u3=fA):΢:=by
 apply mw=_;rw[k.sc];show h
abbrev Qlw{a:Type}(c:Cf)(x:Str)(f:(∀X,ω->΢/\T8)->MM a):MM a:=
 VY (u3=fA) λh=>coMo (U9 0 x c.t) λr=>f (Ľ X k #[k.gl h,k.fc r])
abbrev coLoB(c:Cf)(x:Str):Prop:=u3=CS\/(c.fn=true/\u3=Ae)
noncomputable instance:Decidable xmg:=by unfold coLoB;show zkd
def coLoB.loc(h:sC)(k:ω):jUi:=by
 unfold L2.Loc;rw[k.sc]
 rcases h with h|⟨f,h⟩
 show Ħ #[ß h,ô h]
 show Ħ #[ô h,ß (k.fn f x)]
abbrev Qk7(sc:Scope)(x:Str):Prop:=Vis sc x
noncomputable instance:Decidable (Qk7 sc x):=by unfold Qk7 Vis;show zkd
def CxOk.ix(k:ω)(i:{i:Nat // c.N[i]?=sO x}):X.N[i.1]?=sO x:=by rw[k.N];show i.2
noncomputable abbrev RE(c:Cf)(e:Expr):=RM c ME λX m=>TH
noncomputable abbrev RT(c:Cf)(e:Expr):=RM c MT λX m=>PMT X e m
noncomputable abbrev RA(c:Cf)(es:ā):=RM c MA λX m=>PMA X es m
structure Ih where
 e:∀c e,xA4
 t:∀c e,xA5
abbrev Qwk(c:Cf)(x:Str)(p:Pos):MM (RE c zP):=
 coMo dO λi=>VY (Qk7 c.sc x/\zC4/\(x=="__classdict__")=false) λh=>
  Zq #[Qb i.1,λX k=>Qqg i.1 jec (by rw[k.sc];show h.1) h.2.1 h.2.2]
abbrev QhS(i:Ih)(c:Cf):(es:ā)->MM (RA c es)
 |[]=>Zq #[Qc,λ_ _=>Qlm]
 |e::es=>VY (Vc e≠0) λh=>Zr Mt λa=>ϣ zU3 r #[Qa a.m r.m,λX k=>Qh0 ć qC zcf]
structure OB where
 op:Operator
 f:Tw
 h:∀c X,ω->ë zRj zni
structure QB where
 op:CmpOp
 f:Tw
 h:∀c X,ω->ë qi7 zni
structure FB where
 x:Str
 f:Ŭ
 h:∀c X,ω->΢->T8->∀{e es ms p pos},vp->Ab->Ac->zud
structure YB where
 x:Str
 T:String
 id:String
 f:pH
 pa:da
 sl:Slot T x id
 ty:zw
 h:∀c X,ω->jb8
abbrev fbB{x:Str}{id:String}{f:Ŭ}(b:zw0)(h:∀c X,ω->Ĵ zO xtc)(d:j9:=by decide)(hd:ŭ:=by decide):FB:=
 #[x,f,λc X k g m _ _ _ _ _ a s n=>QhO (h c X k) QbD g m b a d hd s n]
abbrev fbT{x:Str}{T:String}{f:Ŭ}(b:Mj)(h:∀c X,ω->Ĵ xK xtc)(d:j9:=by decide)(hd:ŭ:=by decide):FB:=
 #[x,f,λc X k g m _ _ _ _ _ a s n=>QfK (h c X k) QbD g m b a d hd s n]
structure Tbl where
 o:List OB
 q:List QB
 f:List FB
 y:List YB
abbrev coTbl:Tbl where
 o:=[#[_,_,λ_ _ _=>Qly],#[_,_,λ_ _ _=>Qkh],#[_,_,λ_ _ _=>QkO],#[_,_,λ_ _ _=>Qh6],#[_,_,λ_ _ _=>Qlj],#[_,_,λ_ _ _=>QkR]]
 q:=[#[_,_,λ_ _ k=>Qpt],#[_,_,λ_ _ k=>QoC k.hu],#[_,_,λ_ _ k=>QqA],#[_,_,λ_ _ k=>Qnt k.hu],#[_,_,λ_ _ k=>QnJ],#[_,_,λ_ _ k=>Qb9 k.hu],#[_,_,λ_ _ k=>QhF k.hu],#[_,_,λ_ _ k=>Qck k.hu],#[_,_,λ_ _ k=>QdV],#[_,_,λ_ _ k=>Qk9 k.hu],#[_,_,λ_ _ k=>QdK k.hu],#[_,_,λ_ _ k=>QoW],#[_,_,λ_ _ k=>Qoy k.hu]]
 f:=[fbB PySem.boot_len λ_ _ k=>QdN,fbT Yab λ_ _ k=>Qar,fbT Dy λ_ _ k=>Qaq k.cal,fbT Yav λ_ _ k=>UW k.cal k.hu,fbT Yav λ_ _ k=>G6 k.cal,fbT Dy λ_ _ k=>Qac k.cal,fbT Dy λ_ _ k=>Qam,fbT Dy λ_ _ k=>Gq k.cal,fbB YaD λ_ _ k=>QcO k.cal,fbB Ybl λ_ _ k=>QaC k.hu,fbB PyProof.Rows.boot_isinstance λ_ _ k=>QeP,fbT Dy λ_ _ k=>Qcs,fbB YaD λ_ _ k=>Qeu k.cal,fbB PyProof.Rows.boot_min λ_ _ k=>Qdm k.cal]
 y:=[#[_,_,_,_,DV,LP,PySem.F.type_list_append,λ_ _ k=>Qcc],#[_,_,_,_,DV,Ybc,PySem.F.type_list_pop,λ_ _ k=>Qmi],#[_,_,_,_,DV,F8,OZ,λ_ _ k=>QcH],#[_,_,_,_,DV,O9,PySem.F.type_list_index,λ_ _ k=>Qeq k.hu],#[_,_,_,_,DV,F8,OZ,λ_ _ k=>QaD],#[_,_,_,_,FL,DZ,Oi,λ_ _ k=>QkM k.hu],#[_,_,_,_,FL,Fb,YaE,λ_ _ k=>Qgu k.hu],#[_,_,_,_,FL,DZ,Oi,λ_ _ k=>QkP k.hu],#[_,_,_,_,FL,Fb,YaE,λ_ _ k=>Qc7 k.hu]]
abbrev QaH(a:Scope):Á:=(a.names.filter (·.2==.free)).map (·.1)
abbrev QaL(sc a:Scope):Scope:={ a with names:=a.names.map λ(n,k)=>if(k==.free&&sc.kind==.function&&sc.names.lookup n==Ae)then(n,.cell)else(n,k) }
abbrev Cf.inn(c:Cf)(Nb:Á)(a:Scope):Cf:={ c with N:=Nb,sc:=QaL c.sc a,fn:=false }
abbrev Qhs(c:Cf)(a:Scope)(cp:ϓ)(Nb:Á):Prop:=
 a.kind=.function/\Qdd a=true/\QiG a (QaH a).reverse=true/\zL9/\Qof c.N c.sc a cp Nb=true/\Nb.Nodup /\
 (a.names.all λy=>xrb ||qLg==Ae ||qLg==jX)=true
noncomputable instance:Decidable (Qhs c scope cp Nb):=by unfold Qhs;show zkd
def Qm1{env:Env}(b:zKb):(∀y∈b,y.2=.free->∃a,zRc y=sO a)->∀c:Cz,(∀p∈c,zRc p=HE) ->
  ∃d,(forIn b c (λ(p:Str×NameKind) (r:Cz)=>if(p.2==.free)=true then(do let a <-cellOf env p.1;pure (v3 ((p.1,a)::r)):Sem _)else jq0))=pure d /\
   d.map (·.1)=((b.filter (·.2==.free)).map (·.1)).reverse++c.map (·.1)/\∀p∈d,zRc p=HE:=by
 induction b with
 |nil=>show λ_ c h=>#[c,rfl,rfl,h]
 | cons y r m=>
  intro h c o;show ĉ n k y;cases hk:(k==NameKind.free)with
  |false=>
   let#[d,l,j,i]:=m qr1 c o;refine xmh
   ·rw[IC,if_neg (by rw[hk];nofun)];show l
   ·rw[j,E7,if_neg (by rw[show qFj=false from hk];nofun)]
  | true=>
   let#[a,q]:=h (n,k) xA6 (D5 hk)
   let#[d,l,j,i]:=m qr1 ((n,a)::c) (λp g=>by
    rcases HN g with e|g
    ·show ώ e q
    ·show o p g)
   refine xmh
   ·rw[IC,zfb,show cellOf env n=pure a from by unfold cellOf;rw[q]];show l
   ·rw[j,E7,if_pos (show qFj=true from hk)];simp
def Qqh(k:ω)(h:Qhs c a cp Nb):∃d,dV a d/\∀b e C u g,CxOk (c.inn Nb a) (blk X a d Nb b e C u g):=by
 let#[t,s,r,q,p,o,n]:=h
 let#[d,A,z,w]:=Qm1 (env:=X.env) a.names (λy i m=>k.ce y.1 (by
  let:=Fz.mp n y i;rw[m]at this
  show Av)) [] (λ_ l=>jY l)
 let hB:dV a d:=Qp8 (by unfold closureFor;show congrArg (·>>=pure) A) t s (Ę z (EN _)) r w k.N k.sc q p;let f:relabel a X.env=QaL c.sc a:=by unfold relabel QaL Env.kindOf;rw[k.sc]
 show#[d,hB,λ_ _ _ _ _=>#[rfl,o,f,k.cal,.never,k.rm,nofun,λx j=>hB.has x (j7 f j),k.tb]]
abbrev QsX:Nat->Á->MM zd2
 |0,_=>Zq []
 |n+1,fs=>Qbs λd=>coMo fs[d]? λx=>ϣ (QsX n (fs.eraseIdx d)) r vP
abbrev QeO:Expr->Á
 |jee=>[x]
 |xmi=>es.filterMap λ|jee=>sO x|_=>nO
 |_=>[]
noncomputable abbrev RG(c:Cf)(a:Expr):=RM c MG λX m=>PMG X a m
abbrev Qqq(c:Cf):(es:ā)->Option {is:Ì // ∀X,ω->zK0/\jMa/\(assignEach es X.env).findIdx? (·.1)=nO}
 |[]=>sO #[[],λ_ _=>#[Qhl,rfl,rfl]]
 | SU p::es=>(YF x c.N).bind λi=>if h:sC then(Qqq c es).map λr=>#[i.1::r.1,λX k=>
   have#[a,b,d]:=r.2 X k
   #[QeA k.nd jec zZ2 a zZ3,congrArg (·+1) b,by
    apply List.findIdx? _ ((false,_)::assignEach es X.env)=nO
    rw[List.findIdx?_cons,d];rfl]]else nO
 |_=>nO
abbrev Qtg(c:Cf):(f:Expr)->MM (RG c f)
 |SU p=>coMo dO λi=>VY xmg λh=>Zq #[QM i.1,λ_ k=>Qgn k.nd jec zZ2 zZ3]
 | .Tuple es _ p=>Qbs λd=>coMo (Qqq c es) λr=>Zq #[QW r.1,λX k=>
   have#[a,b,e]:=r.2 X k
   QgF k.cal a b e]
 |_=>Β
noncomputable abbrev RI(c:Cf)(a e:Expr):=RM c MI λX m=>PMI X a e m
abbrev Quj(i:Ih)(c:Cf)(l e:Expr):MM (RI c l e):=Qbs λd=>match d with
 |0=>qd #[Qm a.m,λX k=>QmA ć]
 |1=>qd #[XT a.m,λX k=>Qfr ć]
 | d=>match e with
  | .Call zP o [] pos=>Qlw c x λg=>Zr (QhS i c o) λr=>match o with
   | [a]=>VY (Vc a≠0) λh=>match d with
    |2=>VY (x="range") λf=>Zq #[YT r.m,λX k=>by subst f;show QoY T9 Ta qC tx]
    |3=>VY (x="reversed") λf=>Zq #[Qea r.m,λX k=>by subst f;show Ql6 T9 Ta qC tx]
    |4=>match l with
     |xtd=>VY qX6 λf=>Zq #[GL r.m,λX k=>by subst f;show QiB T9 Ta qC tx]
     |_=>Β
    |5=>match l with
     |xtd=>VY qX6 λf=>Zq #[Jf r.m,λX k=>by subst f;show QfQ T9 Ta qC tx]
     |_=>Β
    |_=>Β
   | [a,b]=>VY (x="range"/\Vc a≠0/\jhf) λh=>Zq #[Qf8 r.m,λX k=>by
     let#[f,h,j]:=h
     subst f;show Qnr T9 Ta qC (by rw[vW h,vW j];rfl) ((Ze j).stE _ _)]
   | [a,b,q]=>VY (x="range"/\Vc a≠0/\jhf/\Vc q≠0) λh=>Zq #[Qgt r.m,λX k=>by
     let#[f,h,j,n]:=h
     subst f;show QpL T9 Ta qC (by rw[vW h,vW j,vW n];rfl) (by rw[vW j,vW n];rfl)]
   |_=>Β
  |_=>Β
abbrev QpO(X:Cx)(m:MT):ā->Prop
 |[]=>True
 |[q]=>PMT X q m
 |_=>False
noncomputable abbrev RlH(X:Cx)(a:Scope)(i:Cz)(Nb:Á)(j h:Expr)(f:ā)(b:MG)(m:ME)(t:MT):Prop:=∀c d C g e,PMG (blk X a i Nb c d C g e) j b/\PM (blk X a i Nb c d C g e) h m/\QpO (blk X a i Nb c d C g e) t f
structure RL(c:Cf)(elt tg iter:Expr)(ifs:ā)(scope:Scope) where
 fin:Ŭ
 i:MI
 b:MG
 t:MT
 m:ME
 cp:ϓ
 Nb:Á
 hf:∀K,Wc K fin
 h:∀X,ω->∃cl,Cq/\PMI X tg iter i/\(∀x,qqc)/\RlH X scope cl Nb tg elt ifs b m t
abbrev Qq5(a:ā)(fin:Ŭ)(i:MI)(cp:ϓ)(b:MG)(q:MT)(m:ME):ME:=QC fin i cp b (match a with|[]=>Vz|_=>q) m
def Qnq(i:cV)(j:ı)(B:dV c l)(hi:PMI X f iter a)(h:RlH X c l Nb f e d b m t)(g:Br):þ (.ListComp e [zb7 f d] c pos) qG0:=by
 cases d with
 |nil=>show Qhw i j B hi R8 nU g
 |cons q r=>cases r with
  |nil=>show Qhy i j B hi R8 qAj nU g
  |cons=>show qoi
def QoO{w:Bool}(hN:X.N.Nodup)(e:Ϙ)(f:jUi)(p:cV)(s:ı)(B:dV c u)(hi:PMI X n iter a)(h:RlH X c u Nb n l d b m t)(o:Br)
  (hw:swapsWith qg8 (sO zJ7) g.line X.env=pure w):jC (.Assign [SU j] qg8 g) (QF i qG0):=by
 cases w with
 |false=>show Qgl hN e f.1 (Qnq p s B hi h o) hw f.2
 | true=>cases d with
  |nil=>show QfD hN e f.1 f.2 p s B hi R8 nU o hw
  |cons q r=>cases r with
   |nil=>show QdA hN e f.1 f.2 p s B hi R8 qAj nU o hw
   |cons=>show qoi
abbrev QvE(i:Ih)(c:Cf):(a:ā)->MM (RM c MT λX m=>QpO X m a)
 |[]=>Zq #[Vz,λ_ _=>True.intro]
 |[q]=>ϣ zf0 t #[t.m,t.h]
 |_=>Β
abbrev Qus(i:Ih)(c:Cf)(n j iter:Expr)(l:ā)(b:Scope):MM (RL c n j iter l b):=Qbs λd=>
 Zr (QsX (QaH b).length (QaH b)) λf=>VY (Qhs c b ((QeO j).map jai++f.map λx=>c.N.findIdx? (·==x)) qz5/\Vc iter≠0) λh=>
 Zr (Quj i c j iter) λa=>Zr (Qtg zG9 j) λg=>
 Zr (QvE i zG9 l) λt=>
 Zr (i.e zG9 n) λe=>Zq #[if d=0 then Zf else Qo2,a.m,g.m,t.m,e.m,_,_,λK=>by split;show(QjR,QmD),λX k=>
  have#[p,B,o]:=Qqh k h.1
  #[p,B,a.h X k,(Ze h.2).fold _,λ_ _ _ _ _=>#[jef g,jef e,jef t]]]
def QqE{env:Env}{o e:Expr}{es:ā}{x:Str}{apos pos:Pos}(h1:jhg)(h2:jhe)(c:(apos.endLine==pos.line)=true)(d:qLh)(h:zV) :
  zi8 zz4=(do
   let a <-zi8 o
   zLh
   let(f,first) <-holding [a] (getMethod a x (do return(<-importBound o env).getD true))
   callWith pos f first zAj zB2):=by
 let g:methodCallForm (nA+zH1) zAj zB2=true:=by
  unfold methodCallForm
  rw[show(backTo pos qc6).all (!·.1)=true from by
   show(qN6 d,Av)]
  show h
 apply(do
  let a <-attributeBase o x env (uJ o)
  zLh
  methodCall o x apos pos env a (nA+zH1) zAj zB2)=_
 rw[(Ze h1).attr h2];let b:methodCallPos true o env apos pos=pure pos:=if_pos (jlb c);unfold methodCall;rw[g,b];rfl
noncomputable abbrev RO(c:Cf)(e:cC):=RM c MOp λX m=>PMO X e m
abbrev Qui(i:Ih)(c:Cf):(e:cC)->MM (RO c e)
 |none=>Zq #[KF,λ_ _=>QgK]
 |è e=>qd #[Jb a.m,λX k=>QgG ć]
abbrev Qwd(c:Cf)(j:Nat)(p:Pos):(v:Const)->MM (RE c (.Constant v j p))
 |Â i=>Zq #[mC Į,λ_ _=>QqG]
 |Ü x=>Zq #[mC Φ,λ_ _=>QnP]
 |zj2=>Zq #[mC jp,λ_ _=>Qru]
 |.none=>Zq #[mC .non,λ_ _=>QnY]
 |_=>Β
abbrev Qug(i:Ih)(c:Cf)(a b:Expr)(op:CmpOp):MM (RM c ME λX m=>∀pos,þ PX m/\PMT X PX (Qg m)):=
 Qbs λd=>coMo coTbl.q[d]? λq=>VY (q.op=op/\jhf) λh=>Zr qA λg=>Zr pJ λj=>Zq #[Qe q.f g.m j.m,λX k pos=>by
  show cn h
  show#[Qoq (pi q) Qba gd MV qX7,Qkc (pi q) Qba gd MV qX7]]
abbrev QnC(g:Str)(es:ā):Option {e:Expr×Pos×Pos // es=[.Call (.Name g e.2.1) [e.1] [] e.2.2]}:=match es with
 |[.Call zP [e] [] q]=>if h:x=g then sO #[(e,p,q),by rw[h]]else nO
 |_=>nO
abbrev QiN(i:Ih)(c:Cf)(x:Str)(p:Pos)(es:ā)(pos:Pos)(f:W->Ì):jN3:=
 coMo xhh λr=>VY jFe λh=>match es with
  |[]=>Β
  |e::es=>VY (B4/\Ac) λz=>ϣ fO a #[Qh kM (box f r.1.g) a.m,λX k=>qb8 ((k.fc r:Cal ..).box f)]
abbrev Qwt(i:Ih)(c:Cf)(x:Str)(p:Pos)(es:ā)(pos:Pos):jN3:=Qbs λd=>match d with
 |0=>coMo xhh λr=>VY jFe λh=>match es with
  |[]=>Zq #[Qh kM r.1.g Qc,λX k=>Qdj (k.fc r) RY zN3 rfl h.2.2]
  |e::es=>VY (B4/\Ac) λz=>ϣ fO a #[Qh kM r.1.g a.m,λX k=>qb8 (k.fc r)]
 |1=>coMo (U9 3 x c.t) λr=>VY (r.1.k+1<=c.k/\u3=fA/\zC4) λh=>match es with
  |[]=>Zq #[Qir r.1.C kM r.1.g Qc,λX k=>Qh2 (k.fc r).1 (k.fc r).2 RY zN3 rfl h.2.2]
  |e::es=>Β
 | 2=>coMo (QnC "set" es) λr=>Qlw c x λg=>Qlw c "set" λb=>VY (x="sorted"/\xte) λh=>Zr xe4 λa=>Zq #[mFn Ju xn0,λX k=>by
   show jGf
   show UU k.cal T9 Ta (b X k).1 (b X k).2 ć zcf]
 | 3=>coMo (QnC "reversed" es) λr=>Qlw c x λg=>Qlw c "reversed" λb=>VY (x="list"/\xte) λh=>Zr xe4 λa=>Zq #[mFn GY xn0,λX k=>by
   show jGf
   show Qco k.cal T9 Ta (b X k).1 (b X k).2 ć zcf]
 |4=>Β
 |30=>QiN i c x p es pos frN
 |31=>QiN i c x p es pos frR
 | d=>coMo coTbl.f[d-5]? λr=>Qlw c x λg=>match es with
  |[]=>Β
  |e::es=>VY (r.x=x/\B4/\Ac) λh=>Zr fO λa=>Zq #[mFn r.f a.m,λX k=>by
   let#[rfl,h,z]:=h
   show r.h c X k T9 Ta ć zcf z]
abbrev Qva(i:Ih)(c:Cf)(o:Expr)(x:Str)(p:Pos)(es:ā)(pos:Pos):MM (RE c (.Call qO0 es [] pos)):=Qbs λd=>match d with
 |0=>coMo (U9 2 x c.t) λr=>VY (qU0/\qdh) λh=>match es with
  |[]=>Β
  |e::es=>VY (B4/\Ac/\qLh/\zV) λz=>Zr (ul o) λcoMo=>ϣ fO a #[Gh r.1.C x kM r.1.g coMo.m a.m,λX k=>Qlf (k.fc r).1 (k.fc r).2 RY zU4 ć rfl xmj z.2.1 (QqE h.2.1 (ϳ h) h.2.2.2 (ϳ z) z.2.2.2)]
 | d=>coMo coTbl.y[d-1]? λr=>VY (r.x=x/\qdh) λh=>Zr (ul o) λcoMo=>match es with
  |[]=>Zq #[mMt r.T r.f coMo.m Qc,λX k=>by
   show xxd
   show QpX r.pa r.sl r.ty (pi r) zU4 qLi b]
  |e::es=>VY (zV/\B4/\Ac) λz=>Zr fO λa=>Zq #[mMt r.T r.f coMo.m a.m,λX k=>by
   show xxd
   show Qsh r.pa r.sl r.ty (pi r) zU4 ć qLi z.1 b (Ze z.2.1).star z.2.2]
noncomputable abbrev QrM(x:Str)(T:String):Prop:=Mj/\j9/\ŭ
abbrev QrI(x:Str):Option {T:String // QrM x T}:=
 if h:x="tuple"then sO #["tuple",by show Ϗ h #[Yab,õ,õ]]
 else if h:x="list"then sO #["list",by show Ϗ h #[Dy,õ,õ]]
 else if h:x="bool"then sO #["bool",by show Ϗ h #[PyProof.Rows.boot_bool,õ,õ]]
 else if h:x="int"then sO #["int",by show Ϗ h #[PyProof.Rows.boot_int,õ,õ]]
 else nO
abbrev Qqr(i:Ih)(c:Cf):(e:Expr)->xA4
 |SU p=>match QrI x with
  |è T=>Qlw c x λg=>Zq #[mC (.ty T.1),λX k=>QrP T9 Ta T.2.1 (ϳ T) T.2.2.2]
  |none=>Qwk c x p
 |.Constant v j p=>Qwd c j p v
 | .BinOp a op b _=>Qbs λd=>coMo coTbl.o[d]? λo=>VY (o.op=op) λh=>Zr qA λz=>Zr pJ λy=>Zq #[Qe o.f z.m y.m,λX k=>by
   subst h;show QsO (pi o) Qba (CL z) (CL y)]
 |.UnaryOp .USub a _=>zp7 qA a #[mUn VX a.m,λX k=>Qny ć]
 |.IfExp q a b _=>Zr zf0 λq=>Zr qA λa=>jE pJ b #[mIf q.m a.m b.m,λX k=>Qrs zo8 ć Bq]
 |qC5=>ϣ qU1 q #[q.m,λX k=>(q.h X k p).1]
 |xmi=>ϣ zU3 a #[mFn Q1 a.m,λX k=>QqJ ć]
 |.List es _=>Qbs λd=>ϣ zU3 a #[mFn (if d=0 then X0 else Vd) a.m,λX k=>by split;show(QoL ć,Qor ć)]
 |.Dict [sO a] [b] _=>Zr qA λa=>jE pJ b #[Qde a.m b.m,λX k=>Qil k.hu ć Bq]
 |.Dict [] [] _=>Qbs λd=>Zq #[if d=0 then Qaj else X4,λX k=>by split;show(Qm3,Qlz)]
 |.Subscript a (.Slice lo hi nO _) _=>Zr qA λa=>Zr (Qui i c lo) λl=>jE (Qui i c hi) u #[mSl a.m l.m u.m,λX k=>Qgo ć (CL l) (CL u)]
 |.Subscript a b _=>Qbs λd=>VY (Vc b≠0) λh=>Zr qA λa=>Zr pJ λb=>match d with
  |0=>Zq #[Qe wIx a.m b.m,λX k=>QsN ć Bq jeg]
  |1=>Zq #[Qe Qce a.m b.m,λX k=>Qod k.hu ć Bq jeg]
  |_=>Zq #[Qe Vu a.m b.m,λX k=>Qo0 k.hu ć Bq jeg]
 |xah=>coMo xhi λC=>VY (jhg/\jhe) λh=>jE (ul o) a #[mUn (Jp C.1.C f) a.m,λX k=>Qou (k.fc C).1 (k.fc C).2 ć ((Ze h.1).attr h.2 _ _)]
 | .ListComp w [zb7 A s] n _=>Zr (Qus i c w A iter s n) λr=>Zq #[Qq5 s r.fin r.i r.cp r.b r.t r.m,λX k=>
   have#[_,B,p,f,h]:=r.h X k
   Qnq (r.hf _) k.cal B p h f]
 |.Call zP es [] pos=>Qwt i c x p es pos
 |.Call qO0 es [] pos=>Qva i c o x p es pos
 |_=>Β
abbrev Qrw(i:Ih)(c:Cf)(p:Pos):(o:BoolOp)->(es:ā)->MM (RM c MT λX m=>PMW X (.BoolOp o es p) m)
 |.And,[a]=>ϣ sw a #[a.m,λX k=>Qiq ć]
 |.Or,[a]=>ϣ sw a #[a.m,λX k=>QmG ć]
 |.And,a::b::r=>Zr sw λa=>jE (Qrw i c p .And (b::r)) b #[Z2 a.m b.m,λX k=>Qkb ć Bq]
 |.Or,a::b::r=>Zr sw λa=>jE (Qrw i c p .Or (b::r)) b #[XD a.m b.m,λX k=>Qn9 ć Bq]
 |_,_=>Β
abbrev QsZ(i:Ih)(c:Cf)(e:Expr):xA5:=match e with
 |.UnaryOp .Not a _=>ϣ sw a #[J7 a.m,λX k=>Qj3 ć]
 |.BoolOp o d p=>jE (Qrw i c p o d) a #[a.m,λX k=>(a.h X k).pt]
 |qC5=>ϣ qU1 q #[Qg q.m,λX k=>(q.h X k p).2]
 |e=>VY (B4/\Vc e≠4) λh=>jE (Qqr i c e) a #[JP a.m,λX k=>QjV ć ((Ze h.1).tru h.2 _)]
abbrev Qsu(n:Nat):Ih:=n.rec #[xA7,xA7] λ_ i=>#[Qqr i,QsZ i]
noncomputable abbrev RS(c:Cf)(st:Stmt):=RM c SM λX m=>PMS X st m
noncomputable abbrev RB(c:Cf)(l:AH):=RM c SM λX m=>Qc1 X l m
abbrev Qnd(s:zH5)(c:Cf):(l:AH)->MM (RB c l)
 |[]=>Zq #[Qx,λ_ _=>QlF]
 |[st]=>jE (s c st) a #[a.m,λX k=>Qmb ć]
 |st::d::l=>Zr (s c st) λa=>jE (Qnd s c (d::l)) b #[Qn a.m b.m,λX k=>Qgx ć Bq]
abbrev QtD(c:Cf)(x:Str)(p b:Pos)(a:Scope):Bool:=u3==CS&&xhj&&!(a.names.any λ(n,k)=>n==x&&(k==.local ||k==.cell))
def Qvn{d:Expr}{g:List Comprehension}{a:Scope}{x:Str}{p b:Pos}{l:Nat}(k:ω)(h:qR1) :
  swapsWith (.ListComp d g a p) (sO (.Name x b)) l X.env=pure (QtD c x p b a):=by
 apply pure (X.env.blockKind==.function&&mw==CS&&xhj&&_)=_;rw[show X.env.blockKind=.function from by unfold Env.blockKind;rw[k.sc,h];rfl,k.sc];rfl
def Qs5{e t:Expr}{l:Nat}{env:Env}(h:Sw):swapsWithSole [t] e l env=T5:=by
 unfold swapsWithSole;show VQ h
structure UB where
 op:Operator
 f:Tw
 h:∀c X,ω->ë zQd zni
abbrev coTbU:List UB:=[#[_,_,λ_ _ _=>QhC]]
abbrev Qrz(i:Ih)(s:zH5)(c:Cf):(st:Stmt)->MM qE2
 |.Return zh9 _=>qd #[QU a.m,λX k=>Qlq ć]
 |.If q a b _=>Zr zf0 λq=>Zr (Qnd s c a) λa=>jE (Qnd s c b) b #[Zd q.m a.m b.m,λX k=>Qqz zo8 ć Bq]
 |.Expr e _=>VY (B4/\iD) λh=>qd #[QS a.m,λX k=>Qho ć qLj]
 |.For v it body [] _=>VY (Vc it≠0) λh=>Zr (Quj i c v it) λa=>Zr (Qtg c v) λg=>ϣ xai b #[Jd a.m g.m b.m,λX k=>QlB k.xe k.cal ć gd Bq ((Ze h).fold _)]
 |.While q body [] _=>Qbs λd=>Zr zf0 λq=>ϣ xai b #[Qo q.m b.m (if d=0 then 1000000 else 20000000),λX k=>QdG _ k.xe zo8 Bq]
 | .AugAssign (.Name x _) op e _=>coMo (coTbU.find? (·.op=op)) λo=>VY (o.op=op/\sC) λh=>coMo dO λj=>Zr Mt λa=>Zq #[Qmu j.1 o.f a.m,λX k=>by
   show cn h
   show QlC k.nd jed zZ2 (pi o) Qba ć zZ3]
 | .Assign [SU y] (.ListComp w [zb7 v u] l p) sp=>VY (sC/\qR1) λh=>coMo dO λj=>Zr (Qus i c w v iter u l) λr=>Zq #[QF j.1 (Qq5 u r.fin r.i r.cp r.b r.t r.m),λX k=>
   have#[_,B,q,f,g]:=r.h X k
   QoO k.nd jed (h.1.loc k) (r.hf _) k.cal B q g f (Qvn k h.2)]
 |zli [jee]=>VY (sC/\B4/\iD) λh=>coMo dO λj=>qd #[QF j.1 a.m,λX k=>QkE k.nd jed (h.1.loc k).1 ć R9 (h.1.loc k).2]
 |zli [xah]=>VY (B4/\iD) λh=>coMo xhi λC=>Zr (ul o) λo=>qd #[Qal C.1.C f o.m a.m,λX k=>Ql8 (k.fc C).1 (k.fc C).2 gh ć (VQ qLj)]
 |zli [.Subscript o j _]=>Qbs λd=>VY (Vc j≠0/\B4/\iD) λh=>Zr (ul o) λo=>Zr (ul j) λj=>Zr Mt λa=>match d with
  |0=>Zq #[Qc0 o.m j.m a.m,λX k=>QjX gh MV ć ((Ze h.1).put _ _ _) R9 rfl]
  |1=>Zq #[GU o.m j.m a.m,λX k=>Qhc k.hu gh MV ć R9]
  |_=>Zq #[V3 o.m j.m a.m,λX k=>QhW k.hu gh MV ć R9]
 |zli [.Tuple es n q]=>VY (B4/\iD/\Vc e≠5) λh=>Zr Mt λa=>jE (Qtg c (.Tuple es n q)) g #[Qq2 g.m a.m,λX k=>QjW ć gd (Qs5 ((Ze h.1).comp h.2.1)) ((Ze h.1).sto h.2.2 _ _ _ _) rfl]
 |_=>Β
abbrev Qrq(n:Nat):zH5:=n.rec (λ_ _ _=>nO) λ_ s=>Qrz (Qsu 50) s
structure Rc where
 x:Str
 ps:Á
 st:Stmt
 C:Option (Nat×Str)
 fr:Option (W->Ì)
 ch:Nat
abbrev QeY(sc:Scope):Á:=(sc.names.filter λy=>y.2==.local ||y.2==.cell).map (·.1)
abbrev QkT(N ps:Á)(sc:Scope):Prop:=qW3/\qMh/\qMi/\N.Nodup/\N.take ps.length=ps/\(∀x∈ps,zsf)/\∀y∈sc.names,xx2
noncomputable instance:Decidable (QkT N ps sc):=by unfold QkT;show zkd
abbrev QwJ(n:Nat)(t:Tj)(st:Stmt)(ps:Á)(ch:Nat):Option {m:FM // ∀Z:Wd,qR2->(∀x,DefAt Z.K Z.mg x st ps->Cal Z.P Z.w Z.K Z.mg Z.base (n+1) x ps m)/\∀C x q,MetAt Z.K C x q st ps->Mal Z.P Z.w Z.K Z.mg Z.base (n+1) C x ps m}:=
 match Qbs (λd=>if d=0 then Zq qO1 else QsX (QeY AC).length qO1) ch with
 | some (N,ch)=>if h:QkT N ps AC then match Qnd (Qrq 50) qJf BR ch with
  | some (b,_)=>sO #[QD qJg b.m,λZ tb=>
   have S:fD:=#[h.1,h.2.1,ϳ h,pw h,h.2.2.2.2.1,h.2.2.2.2.2.1,h.2.2.2.2.2.2]
   have i:N.length=ps.length+qJg:=by
    show qu3;omega
   have O:∀(q:Str) (f:Addr) (c:Value) (A:Around) (a:Ϟ) (s:Shared) (H:Hp) (E:XK),zG n q c->CxOk qJf (Qf9 CX0 Z.P Z.w Z.K Z.mg Z.base N q AC f c A a s H E).nox:=
    λq f c A a s H E e=>#[rfl,S.nd,rfl,rfl,.never,e,Ŗ,λx g=>g.elim W5 λg=>jM4 g,tb]
   #[λx d=>Qoj d S i λf c A a s H E e=>xag,λC x q d=>Qov d S i λf c A a s H E e=>xag]]
  |none=>nO
  else nO
 |none=>nO
abbrev Rc.fc(a:uB)(n:Nat)(r:Rc)(g:FM):Fc:=match r.C with
 |none=>#[1,r.x,a 0,n+1,r.ps,match r.fr with|none=>g|è f=>box f g]
 |some (C,b)=>if r.x="__init__"then#[3,b,a C,n+1,r.ps,g]else#[2,r.x,a C,n+1,r.ps,g]
abbrev Rc.at(a:uB)(Z:Wd)(r:Rc):Prop:=match r.C with
 |none=>DefAt Z.K Z.mg r.x r.st r.ps
 |some (C,b)=>ClsAt Z.K Z.mg (a C) b/\∃q,MetAt Z.K (a C) r.x q r.st r.ps
abbrev Qe3(a:uB)(n:Nat)(t:Tj):iN->li->Option (List FM)
 |r::l,g::gs=>(QwJ n t r.st r.ps r.ch).bind λm=>(Qe3 a (n+2) qX8 l gs).map (m.1::·)
 |_,_=>sO []
abbrev QfE(a:uB)(n:Nat)(t:Tj):iN->li->Tj
 |r::l,g::gs=>QfE a (n+2) qX8 l gs
 |_,_=>t
def Qtt{d:uB}{Z:Wd}{n:Nat}{r:Rc}{g:FM}(a:r.at d Z)(M:(∀x,DefAt Z.K Z.mg x r.st r.ps->Cal Z.P Z.w Z.K Z.mg Z.base (n+1) x r.ps g)/\∀C x q,MetAt Z.K C x q r.st r.ps->Mal Z.P Z.w Z.K Z.mg Z.base (n+1) C x r.ps g):(r.fc d n g).ok Z:=by
 let#[x,ps,st,C,e,ch]:=r;cases C with
 |none=>cases e with
  |none=>show M.1 _ a
  |some f=>show(M.1 _ a).box f
 |some c=>
  let#[a,q,b]:=a;apply(if x="__init__"then _ else _:Fc).ok Z;split
  ·rename_i h;show#[a,h▸xA8]
  show Ħ #[a.cl,xA8]
def Qom(b:uB)(Z:Wd)(l:iN):∀(n:Nat) (t:Tj) (gs:li),qR2->(∀r∈l,r.at b Z)->Qe3 b n t l gs=sO gs->∀f∈QfE b n t l gs,zl2:=by
 induction l with
 |nil=>show λn t gs h _ _=>h
 | cons r l d=>
  intro n t gs h c e;cases gs with
  |nil=>show h
  |cons g gs=>
   show(ē m v s e,Bw u q p s);let#[o,j]:=List.cons.inj p;refine d _ _ gs (AQ f a) (λr i=>c r (.tail _ i)) (Ę q (by rw[j]))
   show Ŧ a
   ·show Qtt (c r xA6) (o▸m.2 Z h)
   ·show h f a
abbrev GQ:FM:=λ_ _=>nO
abbrev oks(Z:Wd):Tj->Prop
 |[]=>True
 |f::l=>zl2/\oks Z l
abbrev ats(a:uB)(Z:Wd):iN->Prop
 |[]=>True
 |r::l=>r.at a Z/\ats a Z l
def QqI{b:uB}{Z:Wd}{l:iN}{t:Tj}{gs:li}{f:Fc}(h:oks Z t)(d:ats b Z l)(e:Qe3 b 0 t l gs=sO gs)(hd:(QfE b 0 t l gs).head?=sO f):zl2:=by
 refine Qom b Z l 0 t gs ?_ ?_ e f (List.mem_of_mem_head? hd)
 ·clear e hd
  induction t with
  |nil=>show jph
  |cons a t c=>show qx9 h
 ·clear e hd
  induction l with
  |nil=>show jph
  |cons a t c=>show qx9 d
#print"-"
#print"-Mi"
namespace My
open L2 Mi
set_option maxRecDepth 100000
abbrev top(i:Nat):Stmt:=PySem.Challenge.pw_doneroom_k53_how_rooms_grow.main.body.getD i qrh
abbrev JU:FM:=QD 1
  (Qn (Zd (ĭ (yp wP)) (Qn (QF 2 (Qe Qec wP Ö))
  (Qn (Qc0 Ù Θ (Qe Qkl wP Ö))
  kR)) Qx)
  (Qn (Qc0 Ù Ć (Qe Qec (Qe Z3 (Qe KA zt9 (mC (.int 69621))) (mC (.int 12345))) zI5))
  (Ķ (Qe Qec (Qe Qkl zt9 (mC (.int 8191))) Ö))))
abbrev Qk:FM:=box frN JU
abbrev Jm:FM:=QD 7
  (Qn (QF 2 (mC (.str "abcdefghijklmnopqrstuvwxyz")))
  (Qn (TL (ã å qa7))
  (Qn (Ai (ĭ (ă qae Θ)) (Ķ (jf zFf BN (Qe KA Ö zsh))))
  (Qn (QF 4 qa7)
  (Qn (QF 5 (ã (Ŝ X0 (Qa Ć (Qa zp (Qa zSd (Qa zL4 (Qa (mC (.int 9)) (É (mC (.int 11))))))))) (AR (ķ (É mZ)))))
  (Qn (QF 6 (ã (Ŝ X0 (Qa Ć (Qa zp (Qa PR (Qa zSd (Qa mZ (Qa zL4 (Qa zL5 (É Ć))))))))) (AR (ķ (É zL5)))))
  (Qn (QF 7 (AR (qr Mq)))
  (Qn (QF 8 (Qe KA æ (Qe QbJ (xf Ŕ) š)))
  (Ķ (jf zFf [nO,sO 8,sO 3,sO 7,sO 2,sO 4,sO 5] (Qe Z3 (Qe Z3 (Qe KA å æ) (ã Ą (Qe Qec (Qe Z3 Ģ (Qe KA Ŕ Ù)) qz6))) Ö)))))))))))
abbrev JR:FM:=box frN Jm
abbrev ZT:FM:=QD 0
  (Zd (ĭ (ă (ã Ö Am) v9)) (Qn (϶ (ł Ù (ľ (í (ê xM)))))
  (Qc0 Ö Am xM)) (Qn (϶ (ł Ù (ľ (í (ê xG)))))
  (QS (v5 Ö))))
abbrev Zc:FM:=box frN ZT
abbrev Jn:FM:=QD 4
  (Qn (QF 3 (AR (ķ (É qz7))))
  (Qn (QF 4 (ã Ö zya))
  (Qn (QF 5 (ã Ö zya))
  (Qn (Zd (Qg (Qe wLt æ PR)) (Qn (QF 6 (ã Ö zya))
  (QU (í (Qa mX (Qa Ą (Qa (ã å (AR (ķ (É (ş (ê å)))))) (Qa Ģ (É Ŕ)))))))) Qx)
  (QU (ã (Ŝ X0 (Qa (í (Qa (mC (.str "first")) nj)) (Qa (í (Qa (mC (.str "second")) nj)) (Qa (í (Qa (mC (.str "same")) nj)) (Qa (í (Qa (mC (.str "none")) (É Ą))) (Qa (í (Qa qF6 (É Ģ))) (É (í (Qa qF6 (ê Ą)))))))))) (Qe QbJ æ PR)))))))
abbrev Km:FM:=box frN Jn
noncomputable abbrev Jr:SM:=(Qn (QF 9 (AR (ķ (É (mC (.int 14))))))
  (Zd (Z2 (Qg qk2) (Qg (yp Ą))) (Qn (QS (ł š (É (ã (Ŝ X0 (Qa v9 (Qa vg (ê v9)))) T0))))
  (Qn (QS (ł Ŕ (É (í (ê (ã š Am))))))
  (QF 4 (xf Ą)))) (Zd (Z2 (Qg qk3) zA2) qaa (Zd (Z2 (Qg (Qe S7 T0 jY1)) qh8) (Qn (QS (ł Ŕ (É (í (Qa zOb (ê (ã æ (AR (ķ (Qa (ş (Qa æ Qc)) Qc))))))))))
  (QF 5 (xf Ģ))) (QS (ł Ŕ (É (Qh 3 Km (ķ (Qa (Ŀ å) (ê (ã å Ć))))))))))))
noncomputable abbrev XM:SM:=qaa
abbrev VT:FM:=QD 4
  (Qn (QF 6 TZ)
  (Qn (QF 7 TZ)
  (Qn (Jd zFf jkg
  Jr)
  (Qn (Qo zA2 XM 1000000)
  (Ķ (mFn Kq Mq))))))
abbrev Xf:FM:=box frN VT
noncomputable abbrev Vx:SM:=(QS (ł Ģ (É (í (Qa (ã æ Ŕ) (ê (Qh 6 Xf (ķ (Qa qaf (Qa å (Qa (mSl æ (Jb (Ψ Ŕ)) KF) (Qa Ć (Qa Ć Qc)))))))))))))
abbrev JF:FM:=QD 5
  (Qn (QF 2 (í (Qa (Qh 2 JR (ķ (É (Qe Z3 Ć (AR (Qa Ù (ê (Ŀ Ö)))))))) (É (Qh 2 JR (ķ (ê (Qe Z3 Ć (AR (Qa Ù (Qa (ã Ö Ć) Qc)))))))))))
  (Qn (QF 3 (Qh 2 JR (ķ (É (Qe Z3 Ć (AR (Qa Ù (ê (ã Ö ϑ)))))))))
  (Qn (QF 4 (Qe QbJ (ã Ö zp) qae))
  (Qn (Zd (Qg (ă qaf Θ)) (QF 4 (AR (ķ (É (Ψ Ą))))) Qx)
  (Qn (QF 5 (mFn Vd (É (í (Qa (Ŀ æ) (ê (Qh 6 Xf (ķ (Qa Ą (Qa å (Qa (mSl æ zL KF) (Qa ϑ (Qa ϑ Qc)))))))))))))
  (Qn (Jd (Qf8 (Qa Ć (É (ş (ê æ))))) lz
  Vx)
  (QU (mFn Kq (É Ģ)))))))))
abbrev Vb:FM:=box frN JF
noncomputable abbrev Xo:SM:=(϶ (mMt "list" Vr Ö (ľ (QC Zf qU2 [nO] ű gX Ma))))
abbrev Vp:FM:=QD 3
  (Qn qxc
  (Qn (Jd BF xaj
  Xo)
  (Ķ (mFn Ju AW))))
abbrev JV:FM:=box frN Vp
noncomputable abbrev JM:SM:=(϶ (mMt "list" Vr å (ľ (jf (YT (ê (Ψ (ş (Qa jP9 Qc))))) BN jya))))
noncomputable abbrev ZU:SM:=(Ai (XD (Z2 (ĭ (ă Ŕ Θ)) (ĭ (ă cS š))) (Z2 (ĭ (Qe wGt Ŕ Ć)) (ĭ (ă (AR (ϡ (ľ (Qe Z3 ϑ Ŕ)))) Θ)))) (϶ (ł Ũ (ľ (í (Qa T0 (ê cS)))))))
noncomputable abbrev VU:SM:=(Jd yZ (QM 10)
  ZU)
abbrev J1:FM:=QD 9
  (Qn fJ
  (Qn (Jd (GL qj) xb0
  JM)
  (Qn (QF 5 (Qh 1 JV qj))
  (Qn (QF 6 (AR (jI (É mZ))))
  (Qn (QF 7 (ã å (AR (ϡ (C9 jyh)))))
  (Qn qxa
  (Qn (Jd qU3 jkh
  VU)
  qSe)))))))
abbrev Vk:FM:=Bb J1
abbrev Vo:FM:=QD 0
  (QU gF)
abbrev Kx:FM:=box frN Vo
abbrev J9:FM:=QD 1
  (Qn zC2
  (Qn (Zd (XD mE (ĭ (ă zta zrd))) kT Qx)
  (Ķ jC1)))
abbrev ZY:FM:=Bb J9
abbrev KU:FM:=QD 0
  (QU (í (Qa (Ŀ Ù) (Qa (ã Ù Ć) (jI (É Pv))))))
abbrev JZ:FM:=box frN KU
abbrev X3:FM:=QD 0
  (QU (í (Qa (Ŀ Ù) (Qa (ã Ù Ć) (jI (É Bu))))))
abbrev KG:FM:=Bb X3
abbrev QT:FM:=QD 0
  (Qn (Ai (XD (Qg (zn v9)) (Qg (zn vg))) (QU Ć))
  (Ķ (mIf (Qg (zn xG)) Am Θ)))
abbrev J6:FM:=box frN QT
noncomputable abbrev K5:SM:=(Qn (Qmu 2 Qfy (Qh 1 J6 (C9 zqb)))
  (Zd (ĭ (ă å Ć)) qSf Qx))
abbrev X6:FM:=QD 2
  (Qn qt8
  (Qn (Jd (Qgt (Qa (xf Ö) (Qa Am (É Am)))) lA
  K5)
  kT))
abbrev Xs:FM:=Bb X6
noncomputable abbrev Vv:SM:=(Qn (Zd (Z2 (ĭ (ă æ Θ)) (ĭ (ă (Ŀ jPa) å))) zR9 Qx)
  (Qmu 3 Qfy (Qh 1 J6 (C9 jPa))))
abbrev JG:FM:=QD 2
  (Qn qta
  (Qn (Jd (Qf8 (Qa (Ψ Ö) (É (ş (ê Ù))))) iZ
  Vv)
  kT))
abbrev ZD:FM:=box frN JG
abbrev YZ:FM:=QD 0
  (Ķ (Qh 3 ZD (jF (jI (É xM)))))
abbrev Uo:FM:=box frN YZ
abbrev KR:FM:=QD 0
  (Ķ (Qh 3 ZD (jF (jI (É xG)))))
abbrev Xb:FM:=box frN KR
abbrev QQ:SM:=(Qn (Ai (ĭ (ă æ v9)) (Ķ (Ŝ X0 (Qa jW2 (ľ (Qh 2 JZ (ϡ (ê (Ψ (Qh 2 Uo (ķ qu6)))))))))))
  (Qn (Ai (ĭ (ă æ xM)) (Ķ (Ŝ X0 (ľ (Qh 2 JZ (ϡ (ê (Ψ (Qh 2 Xb (ķ qu6))))))))))
  (Qn (Ai (ĭ (ă æ vg)) (Ķ (Ŝ X0 (C9 (Qh 2 KG (ϡ jGh))))))
  (Qn (Ai (Z2 (ĭ (ă æ xG)) (ĭ (ă (Ŀ (ã Ù qee)) vg))) (Ķ (Ŝ X0 (ľ (Qh 2 KG (jI (ê qee)))))))
  (Ķ (Ŝ X0 (É jW2)))))))
abbrev Zl:FM:=QD 2
  (Qn (QF 2 zta)
  (Qn (TL (Ŀ (ã Ù å)))
  QQ))
abbrev Va:FM:=box frN Zl
abbrev JQ:FM:=QD 1
  (Qn (QF 1 (Ŀ Ù))
  (Qn (Zd (J7 (JP Ö)) qSg Qx)
  (QU (Ŝ X0 (É (í (Qa (zyb Ö) (Qa (Ŀ (ã Ö Am)) (Qa (Ψ (ã (zz8 Am) Ć)) (ê Pv))))))))))
abbrev V6:FM:=box frN JQ
abbrev J4:FM:=QD 0
  (Ķ (mMt "list" K6 (jf BF [nO] wP) AW))
abbrev Vn:FM:=Bb J4
abbrev QY:FM:=QD 3
  (Qn zC2
  (Qn (Zd mE (QU (Ŝ X0 (Qa (Qh 2 JZ (jI (É (Ψ (Qh 2 Xb (Qa å (ê (ã Ö ϑ)))))))) (É (Qh 2 JZ (jI (ê (Ψ (ã Ö ϑ))))))))) Qx)
  (Qn (QF 3 (Qh 2 ZY (ķ (É Ö))))
  (Qn (Zd (Qg (Qe wIs æ Cp)) (QU (Qh 1 V6 (É Ö))) Qx)
  (Qn (Zd (Qg (ă (Ŀ æ) zOb)) (Qn (QF 4 (Qe Z3 (Ŀ Ö) (í (É (Ŝ Q1 (Qa (ã Ö Ć) (ê (ã Ö ϑ))))))))
  (QU (Ŝ X0 (É (í (Qa Ą (Qa (Qh 2 Vn (ķ (ê (ã æ Ć)))) jX6))))))) Qx)
  (QU (Qh 2 Va (Qa å (É Ö)))))))))
abbrev QX:FM:=box frN QY
noncomputable abbrev Wr:SM:=(϶ (ł å wB))
noncomputable abbrev KL:SM:=(Qn (TL (v5 å))
  (Zd (ĭ (Qe xX æ Ö)) (Qn (V3 Ö æ Bu)
  (Jd (Qea (É zA8)) iZ
  Wr)) Qx))
abbrev Y3:FM:=QD 4
  (Qn xA9
  (Qn (QF 2 (mFn Vd (É (Qh 0 Kx Qc))))
  (Qn (Qo zRd KL 20000000)
  (Ķ (mFn Ya AW)))))
abbrev ZG:FM:=Bb Y3
abbrev Xk:FM:=QD 0
  (QU (mIf (JP (ã Ù zp)) Cp (í (Qa (ã Ù Ć) (É (ã Ù ϑ))))))
abbrev ZX:FM:=box frN Xk
noncomputable abbrev Kg:SM:=(QS (ł æ (É (í (Qa Ą (Qa Ŕ (Qa (Bj å š) (ê (Qh 1 ZX (Qa š Qc))))))))))
noncomputable abbrev Ki:SM:=(Qn (QF 6 (Qh 2 ZY (qr Pe)))
  (Jd (Qm qef) (QM 7)
  Kg))
abbrev Xe:FM:=QD 7
  (Qn (QF 1 PC)
  (Qn (QF 2 (mFn Xd (C9 (QC Zf zFg zVj Se Vz jya))))
  (Qn zH6
  (Qn (Jd zFg (QW [4,5])
  Ki)
  qSf))))
abbrev Jk:FM:=box frN Xe
noncomputable abbrev XJ:SM:=(϶ (mMt "list" Yk Ö (ľ (ã å Ć))))
abbrev VL:FM:=QD 2
  (Qn qxc
  (Qn (Jd BF (QM 2)
  XJ)
  zRa))
abbrev Xl:FM:=box frN VL
abbrev Xj:FM:=QD 0
  (Ķ (mFn Ju (ľ (QC Zf (Qm qpc) [nO] ű gX Ma))))
abbrev Je:FM:=box frN Xj
abbrev JB:FM:=QD 1
  (Qn (TL (mFn Xd (ľ (QC Zf uk xtf Se jr4 (í (ϡ (ê Bu)))))))
  (Ķ (mFn YJ (ľ (QC Zf (Jf (ê PC)) zb0 Se (Qg qc7) (í (jF (ê Bu))))))))
abbrev V7:FM:=box frR JB
noncomputable abbrev Vh:SM:=(Ai (ĭ (Qe zeh Ą å)) (϶ (ł (mMt "dict" QcZ æ (Qa Ą (É TZ))) Mq)))
noncomputable abbrev Jt:SM:=(Zd (Qg (Qe zeh Ŕ Ũ)) (Qn (GU Ũ Ŕ (í (Qa (Ψ (Ŀ zEi)) (É Ą))))
  (QS (ł cS (É Ŕ)))) Qx)
noncomputable abbrev Jv:SM:=(Jd (Qm (mMt "dict" KQ æ jZ1)) lz
  Jt)
noncomputable abbrev Z1:SM:=(Qn (QF 10 TZ)
  (Qn (Jd qU4 iZ
  Jv)
  (QF 9 cS)))
abbrev XO:FM:=QD 8
  (Qn (QF 3 Qaj)
  (Qn (Jd BF xb1
  Vh)
  (Qn (QF 8 (mFn YJ (ľ (jf uk [nO] (í (jF (ê (Ŝ Q1 (Qa Θ (Qa Cp Qc))))))))))
  (Qn (QF 9 (mFn GN (É Ũ)))
  (Qn (p0 zRe Z1)
  qSe)))))
abbrev KO:FM:=box frR XO
abbrev Z7:FM:=QD 0
  (Ķ (mIf (Z2 (Qg (xj Ù)) gX) Ma Cp))
abbrev Jw:FM:=Bb Z7
noncomputable abbrev V4:SM:=(Qn (϶ (ł å AW))
  (QF 1 (ã (Qe Qce Ù Ö) Ć)))
abbrev X9:FM:=QD 1
  (Qn fJ
  (Qn (p0 zBf V4)
  (Ķ (mFn GY Md))))
abbrev Vt:FM:=Bb X9
abbrev XR:FM:=QD 0
  (QU (Qh 3 KO (ķ (Qa (Ŝ X0 (É Θ)) (Qa Qaj Qc)))))
abbrev Xz:FM:=box frR XR
abbrev Xp:FM:=QD 1
  (Qn qt9
  (Ķ (jf uk zg7 w4)))
abbrev VB:FM:=box frN Xp
noncomputable abbrev ZC:SM:=(Zd (Z2 (Qg (ă qpd æ)) (Qg (Qe zeh Ģ Ą))) (Qn (QF 9 (Qh 3 KO (Qa å (Qa (Ŝ X0 (É š)) (É Ą)))))
  (Zd (Qg (Qe xre Ģ T0)) (Qn (QF 10 (Qh 2 Vt (Qa (Qh 1 Xz (É å)) (É Ģ))))
  (QU (í (Qa qF5 (Qa æ (Qa (Qh 2 VB (ķ (É cS))) (É (Qh 2 VB (ķ (ê (Qe Z3 (Ŝ X0 qu7) (Qh 2 Vt (Qa T0 qu7))))))))))))) Qx)) Qx)
noncomputable abbrev VP:SM:=(Qn (QF 4 (Qh 3 V7 (qr (ϡ w6))))
  (Jd yZ (QW zFh)
  ZC))
abbrev WD:FM:=QD 9
  (Qn (QF 2 zzd)
  (Qn (Jd (Qm nF) lA
  VP)
  kT))
abbrev YK:FM:=box frN WD
abbrev Q8(a:Addr):FM:=QD 0
  (Qn (Qal a "numbers" Ù X4)
  (Qn (Qal a "risen_by" Ù X4)
  (Qal a "askers" Ù X4)))
abbrev Q7(a:Addr):FM:=QD 0
  (Qn (V3 (yA Ù) Ö Θ)
  (Qn (V3 qhj Ö Cp)
  (V3 qj9 Ö TZ)))
noncomputable abbrev Ks:SM:=(Qn (QF 6 (mFn Kq (É (QC Zf (Qm (ã Ö Ć)) [nO,sO 4] ű (Qg (Qe yQ Ù Ö)) Ù))))
  (QS (ł å (É (í (Qa (Ŝ Q1 zAg) (ê (mIf (Qg (Qe S7 Ģ (ã Ö Ć))) Ć Θ))))))))
abbrev V9:FM:=QD 5
  (Qn fJ
  (Qn (Jd (Qm jU4) (QW [3,4,5])
  Ks)
  kR))
abbrev VA:FM:=Bb V9
noncomputable abbrev Zh(a:Addr):SM:=(Zd (Qg (Qe wLt (qa9 æ) jVg)) (Qn (V3 (yA Ù) æ jVg)
  (Qn (V3 qhj æ Ö)
  (yb jC2))) Qx)
abbrev QL(a:Addr):FM:=QD 3
  (Qn fJ
  (Qn (Jd (Qm (Bj qj9 Ö)) xb0
  (Zh a))
  kR))
noncomputable abbrev JD(a:Addr):SM:=(yb (qM0 w6))
noncomputable abbrev JK(a:Addr):SM:=(Qn (Zd (ĭ (Qe xX Ģ (yA å))) (Qn (yb (qM0 Pe))
  (϶ (ł Ą Pe))) Qx)
  (϶ (ł (Bj (mUn (qjg a) å) Ģ) jDj)))
noncomputable abbrev JH(a:Addr):SM:=(Qn (TL wQ)
  (Jd (Qm qeg) (QW [5,6])
  (JK a)))
noncomputable abbrev JE(a:Addr):SM:=(϶ (mMt "list" Vr Ą (ľ (Gh a "raise_askers" 2 (QL a) å (ê wQ)))))
abbrev Zx(a:Addr):FM:=QD 5
  (Qn (QF 2 (Qir a 1 (Q8 a) Qc))
  (Qn (Jd uk lA
  (JD a))
  (Qn (QF 4 (mFn Qf0 AW))
  (Qn (p0 zLi (JH a))
  (Qn (QF 4 (mFn Yz (É (yA å))))
  (Qn (p0 zLi (JE a))
  kR))))))
noncomputable abbrev ZV:SM:=(϶ (ł (mMt "dict" QmW Ö (Qa æ (É TZ))) Md))
abbrev Q6:FM:=QD 3
  (Qn xA9
  (Qn (Jd BF xaj
  ZV)
  zRa))
abbrev Vy:FM:=box frR Q6
noncomputable abbrev VO:SM:=(Qn (QF 9 (mMt "dict" QaZ æ (Qa (Qh 1 ZX (É (ã å Ģ))) (É zD6))))
  (QS (ł (mMt "dict" QcZ Ą (Qa š (É TZ))) (É (í (Qa Ģ (Qa T0 (ê qpd))))))))
abbrev Jx:FM:=QD 8
  (Qn qt9
  (Qn (TL (Qh 1 Vy AW))
  (Qn (QF 4 Qaj)
  (Qn (Jd (Qm zzd) qr9
  VO)
  zR9))))
abbrev VN:FM:=box frR Jx
noncomputable abbrev Y0(a:Addr):SM:=(Qn (yb jx0)
  (QF 2 jN6))
abbrev Jg(a:Addr):FM:=QD 2
  (Qn zH6
  (Qn (p0 (Qg (xj jN6)) (Y0 a))
  (Qn (QF 4 (Qh 2 Vt jwc))
  (Ķ (Qh 2 VB (jF (É (Qe Z3 Ą qq7))))))))
abbrev KC(a:Addr):FM:=QD 7
  (Qn (QF 2 (Qh 2 YK (ķ (É Ö))))
  (Qn (Zd (Qg (xj å)) kR Qx)
  (Qn (QF 3 (mFn Kq (É nF)))
  (Qn (QF 4 (jf qj0 BN (í (ķ (É Ö)))))
  (Qn (QF 5 (Qh 2 (Zx a) (Qa qeh (É Ą))))
  (Qn (QF 6 (mFn QcN (É (jf eR jeh (Bj (yA Ö) Ù)))))
  (Qn (QF 7 (QC Zf eR xi0 ű (Qg (ă (Bj (yA å) Ù) Ö)) Ù))
  (Qn (QF 8 (mFn Wy (É (QC Zf (XT (yA Ģ)) zW0 Se Vz (í (ķ (jI (ê (Bj (yA å) (Ŝ Q1 (Qa Ù qL8)))))))))))
  (QU (í (Qa qF7 (Qa Ŕ (Qa (jYf (Jg a)) (É Ũ))))))))))))))
abbrev GZ(a:Addr):FM:=Bb (KC a)
abbrev Z5:FM:=QD 2
  (Qn qt8
  (Qn (Ai (ĭ (Qe wLt Ö (ş qj))) (QF 2 (ã Ù Ö)))
  (Qn qta
  (Qn (Ai (Qg (Qe wGe å qdi)) (TL (Qe QbJ å qdi)))
  (Ķ (mFn Vd (Qa æ (ľ (Qe Z3 (Qe Qec (Qe KA (Qe Qec å zI5) (mC (.int 48271))) zI5) Ö)))))))))
abbrev Zz:FM:=box frR Z5
noncomputable abbrev JI:SM:=(Qn (Ai (XD (ĭ (ă oB v9)) (ĭ (ă oB vg))) (϶ (ł å (ľ (mFn Vd (Qa æ (Qa æ (ê æ))))))))
  (Qn (Ai (ĭ (yp zrd)) (Qc0 Ö æ ztb))
  (Qn (Ai (ĭ (ă oB xM)) (Qc0 ztb Ć æ))
  (Zd (ĭ (ă oB xG)) (Qn (Qc0 ztb ϑ æ)
  (QS (v5 å))) Qx))))
abbrev Zy:FM:=QD 3
  (Qn (QF 1 (QC Qo2 BF [nO] ű Vz Cp))
  (Qn fJ
  (Qn (Jd (YT jr5) lA
  JI)
  zRa)))
abbrev Zp:FM:=box frN Zy
abbrev Q4:SM:=(Qn (Zd (Qg (ă Ũ v9)) (QU (mFn Vd (Qa (í zBa) (É (í (Qa æ (Qa Ą (Qa (Ψ (ã jVh Ć)) (ê Pv))))))))) Qx)
  (Qn (Zd (Qg (ă Ũ xM)) (QU (mFn Vd (É (í qd3)))) Qx)
  (Qn (Zd (Qg (ă Ũ vg)) (QU (mFn Vd (É (í (Qa æ (Qa Ą qd4)))))) Qx)
  (Qn (Zd (Z2 (Qg (ă Ũ xG)) (Qg (ă (Ŀ (ã š (Qe wIx jVh Θ))) vg))) (QU (mFn Vd (É (í (Qa æ (Qa Ą (Qa (Ŀ (ã (zz8 Ą) Ģ)) (ê Bu)))))))) Qx)
  (Qn (Zd (Qg (ă Ũ zOb)) (QU (mFn Vd (É (í (Qa (Qe Z3 æ (Ŝ Q1 (ê (mFn Q1 nj)))) (Qa (mMt "list" K6 (QC Zf BF zVj Se Vz Ù) (ê (ã (Qe wIx š Ģ) Ć))) jX6)))))) Qx)
  (QU (mFn Vd (É (í zBa)))))))))
abbrev Qv:FM:=QD 6
  (Qn (Qq2 (QW [3,4,5,6]) å)
  (Qn (QF 7 (ã (Qe wIx Ù Ą) Ć))
  (Qn (Zd (JP Ŕ) (QU (mFn Vd (Qa (í qd3) (É (í zBa))))) Qx)
  (Qn (Zd (Z2 (Qg (ă Ģ (ş (É š)))) jS2) (QU (mFn Vd (É (í (Qa (zyb æ) (Qa (Ŀ (ã æ Am)) (Qa (Ψ (ã zz9 Ć)) (ê Pv)))))))) Qx)
  (Qn (Zd (Qg (ă Ģ (ş (É š)))) (QU TZ) Qx)
  (Qn (QF 8 (Ŀ (ã š Ģ)))
  Q4))))))
abbrev ZZ:FM:=box frN Qv
abbrev VF:FM:=box frR Qv
noncomputable abbrev ZJ:SM:=(Qn (QF 4 (Qh 3 ZZ (jF (ϡ (ľ (Ŀ jPb))))))
  (Zd (ĭ (ă jPc (ş wB))) (QS (v5 æ)) (Qn (QF 5 (ã Ą (Qe wIx zz9 Ć)))
  (Qn (Qc0 jPb Ć (Ψ jPc))
  (Zd zBg (Qn jXd
  jRe) Qx)))))
abbrev Xa:FM:=QD 4
  (Qn (QF 2 (Qde gF Bu))
  (Qn (TL (mFn Vd (ľ (mFn Vd (Qa gF (ê Θ))))))
  (Qn (Qo jS2 ZJ 20000000)
  (Ķ (mFn Ya Md)))))
abbrev Ji:FM:=box frN Xa
abbrev ZH:FM:=QD 1
  (Qn zC2
  (Qn (Ai (Z2 (J7 mE) (Z2 (ya (Qe wLt zta zrd)) (ĭ (ă (Ŀ jC1) mX)))) (Ķ (ã (Qe wIx å jN5) ϑ)))
  kT))
abbrev Qr:FM:=box frN ZH
noncomputable abbrev Z6:SM:=(Qn (QF 8 (v5 Ŕ))
  (Qn (Zd (ya jPd) zRb Qx)
  (Zd (Z2 jr6 jRc) (Qn (V3 š Ũ Bu)
  (϶ (mMt "list" Vr Ŕ (ľ (Qh 3 ZZ (jF (ϡ (ê Ũ)))))))) Qx)))
noncomputable abbrev ZA:SM:=(Zd (Z2 jZh jZi) (Qn (QF 6 jYg)
  (Qn (QF 7 X4)
  (p0 jZj Z6))) Qx)
abbrev XN:FM:=QD 5
  (Qn (QF 4 (QC Zf yZ zb0 Se jr4 Ö))
  (Qn (Jd (Qm qei) (QM 5)
  ZA)
  Ci))
abbrev Z8:FM:=box frN XN
noncomputable abbrev J8:SM:=(Qn (Zd (XD (J7 (JP (mFn Wp (jI (É xL0))))) (XD (Qg (Qe wNe (ş (É Ö)) PR)) (J7 (JP (mFn Wp (Qa (ã Ö zp) (É zN4))))))) Ci Qx)
  (Zd (XD (JP (mFn Wp (Qa (ã Ö Ć) (É zN4)))) (JP (mFn Wp (Qa (ã Ö ϑ) (É zN4))))) Ci Qx))
abbrev XH:FM:=QD 1
  (Qn (Jd BF (QM 1)
  J8)
  zRb)
abbrev VS:FM:=box frN XH
abbrev V2:FM:=QD 0
  (Qn (Zd (XD (J7 qB1) jRd) Ci Qx)
  (Ķ (Qe yQ Pv (jf (YT jr7) qR3 (Qe S7 zqi jV4)))))
abbrev Zo:FM:=Bb V2
abbrev Jq:FM:=QD 0
  (Qn (Zd mE qSg Qx)
  (Ķ (QC Zf BF xtg Se (ya jC3) Ù)))
abbrev ZK:FM:=box frN Jq
noncomputable abbrev ZQ:SM:=(Qc0 Ũ ϑ (Qe yQ (Ŀ Ũ) Ŕ))
noncomputable abbrev Vm:SM:=(Qn (QF 6 (Qh 2 ZK (ϡ Pe)))
  (Qn (QF 7 (QC Zf qU2 [nO] ű zLj Ù))
  (Qn (Jd tF jkg
  ZQ)
  (Qn (yb jti)
  (Qn (QF 9 jSj)
  (ou (Qg (xj T0)) (yb jAc)))))))
abbrev Z9:FM:=QD 7
  (Qn zH6
  (Qn (QF 4 TZ)
  (Qn (Jd yZ (QM 5)
  Vm)
  zR9)))
abbrev Z0:FM:=Bb Z9
noncomputable abbrev Q5:SM:=(Zd (Qg jI5) Ci Qx)
noncomputable abbrev QP:SM:=(Qn (QF 10 jz3)
  (Qn (yb jv2)
  (QF 7 (Qe Z3 š (mSl Ģ zL KF)))))
abbrev JN:FM:=QD 5
  (Qn (Zd (XD (J7 qB2) jRf) Ci Qx)
  (Qn (Zd (XD (Qg qb9) (Qg qbb)) Ci Qx)
  (Qn (Jd qU3 lz
  Q5)
  (Qn (Zd (Qg jv4) Ci Qx)
  (Qn (QF 7 qpe)
  (Qn qxa
  (Qn (Jd (YT (É zSd)) jkh
  QP)
  (Qn (Zd (Qg jv5) Ci Qx)
  (Ķ (Qh 3 Zo (jF (ϡ (É š)))))))))))))
abbrev Zi:FM:=box frN JN
noncomputable abbrev Kw(a:Addr):SM:=(Qn (QF 2 (Qh 2 Vb jA3))
  (Qn (TL (jf yZ [nO] jUb))
  (Qn (QF 4 (Qh 2 Vk jAd))
  (Qn (QF 5 qpe)
  (Qn (QF 6 (Qh 2 (GZ a) (Qa å Pe)))
  (Qn (QF 7 (Qh 1 JV Md))
  (Qn (QF 8 (QC Zf tF zM1 ű qB3 Ù))
  (Qn jR0
  (Qn jR5
  (Zd jr8 (Qn jS0
  jS1) Qx))))))))))
abbrev YU(a:Addr):FM:=QD 8
  (Qn (Jd (Qgt (Qa Θ jB6)) (QM 1)
  (Kw a))
  zRb)
abbrev QiQ:iN:=[
 #["_law_take",xe5,top 46,nO,Ă,1180701958909355622400],
 #["_law_names",xe5,top 47,nO,Ă,146664752271695273969340433963290015545645783402446848],
 #["_law_step_on",["lines","opened"],top 49,nO,Ă,2181070880],
 #["_law_plain",["feed","boxes","words"],top 48,nO,Ă,154748408048922477340917760],
 #["_law_part",["feed","size","menus","later","opens","dos"],top 50,nO,Ă,287576754174376318747919496316112043117737884868740128],
 #["_law_program",["feed","bounds"],top 51,nO,Ă,8652689186294395719574275045174471547020118016],
 #["_law_words",dB,top 55,nO,Ă,2251834176569376],
 #["_law_manner",["program","feed"],top 56,nO,Ă,45195051238167852691477250571678781472],
 #["first_spot",[],top 17,nO,Ă,0],
 #["line_of",zN5,top 19,nO,Ă,171832246272],
 #["at_gap",xth,top 23,nO,Ă,0],
 #["at_head",xth,top 24,nO,Ă,0],
 #["level_change",["line"],top 10,nO,Ă,33587232],
 #["head_of",zU5,top 9,nO,Ă,33558592],
 #["found_behind",["lines","k","kind"],top 11,nO,Ă,34768960],
 #["or_of",zU5,top 8,nO,Ă,0],
 #["end_of",zU5,top 7,nO,Ă,0],
 #["next_in_part",["lines","spot"],top 21,nO,Ă,89202980794123799832035645491119037980082176],
 #["behind_do",["spot"],top 22,nO,Ă,2147483648],
 #["part_number",["program","name"],top 14,nO,Ă,128],
 #["next_spots",zN5,top 20,nO,Ă,2477093726828915711375572992],
 #["spots",dB,top 26,nO,Ă,253330851730818080],
 #["place_of",["spot"],top 18,nO,Ă,0],
 #["steps_of",dB,top 29,nO,Ă,82397289204915935647511219339265],
 #["all_lines",dB,top 15,nO,Ă,163872],
 #["words_of",dB,top 13,nO,Ă,33554496],
 #["giving_spots",["program","manner","word"],top 31,nO,io,221366558694360219904],
 #["reached",["steps","starts","shut"],top 3,nO,io,42839032672236835668020272074588160],
 #["made_word",["line"],top 1,nO,Ă,1280],
 #["walk_to",["found","n"],top 5,nO,Ă,104154268704],
 #["nearest",["steps"],top 4,nO,io,0],
 #["spots_at",["program","numbers"],top 27,nO,Ă,0],
 #["growth",zKf,top 33,nO,Ă,77371262831876133607178240],
 #["__init__",["self"],KH jei 0,zOc,nO,33824],
 #["open_key",xi1,KH jei 1,zOc,nO,1116224],
 #["asked_of",["ahead","key"],top 38,nO,Ă,3590197565551880142880],
 #["raise_askers",xi1,KH jei 2,zOc,nO,39273713189185978400],
 #["least_table",["ahead","keys"],top 42,nO,nO,79345884065184592698006306848],
 #["words_by_place",["manner"],top 35,nO,io,1343225888],
 #["steps_to",zKf,top 37,nO,io,43847046281316794368],
 #["run_to",["program","least","key"],top 43,nO,nO,3615561838515827508256],
 #["most",zKf,top 41,nO,Ă,2788954863457974291279135745634163216293888],
 #["_law_feed",["script","k"],top 45,nO,io,108158035585668160],
 #["_law_blocks",["lines"],top 52,nO,Ă,2787593191354703999099557803464914171363360],
 #["_law_next",["program","rows","spot"],top 53,nO,nO,132407338469450627636612365402054359403628739136496649741445552591902286991592518361350668288],
 #["_law_all",["program","rows"],top 54,nO,Ă,9571860364847217089150722748768608879648],
 #["_law_made",zN5,top 57,nO,Ă,1271377428480],
 #["_law_grows",["program","rows","manner","word"],top 60,nO,Ă,1250139281067669248672103757768556544],
 #["_law_kinds",["row"],top 61,nO,Ă,528281486375936],
 #["_law_is_run",["program","rows","run"],top 62,nO,Ă,37215691820650303283940984288],
 #["_law_given",["manner","spot"],top 58,nO,Ă,34359738368],
 #["_law_book",["program","manner","run"],top 59,nO,Ă,46343736117007201936639904925446368506413057],
 #["_law_round_right",["program","rows","manner","word","run","round_here"],top 63,nO,Ă,3213977233366906287461545210247274298246648824526548436597760],
 #["law",si,top 64,nO,nO,582176023777886258361033839284130728545346745328550976]]
abbrev Qpp(a:Addr):li:=[JU,Jm,ZT,Jn,VT,JF,Vp,J1,Vo,J9,KU,X3,QT,X6,JG,YZ,KR,Zl,JQ,J4,QY,Y3,Xk,Xe,VL,Xj,JB,XO,Z7,X9,XR,Xp,WD,(Q8 a),(Q7 a),V9,(QL a),(Zx a),Q6,Jx,(Jg a),(KC a),Z5,Zy,Qv,Xa,ZH,XN,XH,V2,Jq,Z9,JN,jki]
abbrev QfJ(a:Addr):Tj:=[#[0,"bool",0,0,[],GQ],#[0,"dict",0,0,[],GQ],#[0,"enumerate",0,0,[],GQ],#[0,"isinstance",0,0,[],GQ],#[0,"len",0,0,[],GQ],#[0,"list",0,0,[],GQ],#[0,"max",0,0,[],GQ],#[0,"min",0,0,[],GQ],#[0,"range",0,0,[],GQ],#[0,"reversed",0,0,[],GQ],#[0,"set",0,0,[],GQ],#[0,"sorted",0,0,[],GQ],#[0,"tuple",0,0,[],GQ],#[4,"askers",a,0,[],GQ],#[4,"numbers",a,0,[],GQ],#[4,"risen_by",a,0,[],GQ]]
def Qm9(a:Addr){P:Program}{w:World}{K:Nk}{b:Ē}{base:Heap}(h:oks qU5 (QfJ a))(c:ats (λ_=>a) qU5 QiQ):Cal P w K b base 107 "law" si jki:=
 QqI (f:=#[1,"law",a,107,si,jki]) h c (gs:=Qpp a) vo vo
#print"-My"
namespace My3
inductive Cd where
 |ei|ag|oo|en|ot
 deriving DecidableEq
structure En where
 kd:Cd
 fs:Nat
 md:Nat
set_option backward.eqns.nonrecursive false in
abbrev ch:Cd->Int
 |.ei=>1
 |.ag=>1
 |.en=>-1
 |_=>0
set_option backward.eqns.deepRecursiveSplit false in
abbrev lev(ls:ō):Nat->Int
 |0=>0
 |k+1=>ŗ k+(match uI with|è c=>ch c|none=>0)
abbrev stp(k:Nat)(c:Cd)(st:jq):xb5:=match c with
 |.ei=>sO (#[.ei,k,0]::st)
 |.ag=>sO (#[.ag,k,0]::st)
 |.oo=>match st with
  |e::r=>if iE then sO (#[.oo,e.fs,k]::r)else nO
  |[]=>nO
 |.en=>match st with
  |e::r=>if iE then nO else sO r
  |[]=>nO
 |.ot=>sO st
def JT(e:MC):Mm=ŗ k+ch c:=by
 simp only[lev,e]
structure Fit(ls:ō)(k t:Nat)(e:En):Prop where
 lt:e.fs<k
 at_:zg8=pb\/zg8=lF
 lv:ŗ sj+t=ŗ k
 ge:∀j,e.fs<j->j<=k->ŗ sj<=ŗ j
 kd:iE\/jhi\/BS
 ei:iE->∀j,e.fs<j->j<k->jF0
 oo:BS->e.fs<e.md/\e.md<k/\ls[e.md]?=zih/\lev ls e.md=ŗ sj/\∀j,e.fs<j->j<e.md->jF0
abbrev Qji(ls:ō)(k:Nat):Nat->jq->Prop
 |_,[]=>True
 |t,e::r=>xti/\Qji ls k (t+1) r
structure Mat(ls:ō)(k:Nat)(e:En):Prop where
 fit:Fit ls k 0 e
 en:uI=zl3
 kd:jhi\/BS
def Qid{k t t':Nat}(l:MC)(h:xti)(u:xe6)(n:c=.oo->0<t):Fit ls (k+1) t' e:=by
 let v:=JT l;let o:=h.lv;let g:=h.lt;refine#[by show vX g,h.at_,Ð,Ú j i r,h.kd,λq j i r p=>?_,ļ q]
 ·show xn1 h i
  ·show zq9;lia
 ·by_cases z:j<k
  ·show h.ei q j i z p
  ·let:j=k:=Ð
   subst this;rw[l];intro w;let m:c=.oo:=ø w
   let:=n m;omega
 ·let#[a,b,s,d,f]:=h.oo q;show#[a,by show vX b,s,d,f]
def Xm(f:MC):∀(r:jq) (t t':Nat),Qji ls k t r->xe6->(c=.oo->0<t)->Qji ls (k+1) t' r:=by
 intro r
 induction r with
 |nil=>
  intro _ _ _ _ _;show zh3
 |cons e r a=>
  intro t t' h b d;show#[Qid f h.1 b d,a (t+1) (t'+1) h.2 (by push_cast;lia) λ_=>xn2]
def QgV{ls:ō}{k:Nat}{c:Cd}{st g:jq}(d:MC)(h:Qji ls k 0 st)(e:stp k c st=sO g):Qji ls (k+1) 0 g:=by
 let p:=JT d
 let new:∀f:Cd,(f=.ei\/f=.ag)->c=f->Fit ls (k+1) 0 #[f,k,0]:=λf hk e=>by
  refine#[Ç,?_,Ç,Ú j m s,by show xe7,ś q j m s,ļ q]
  ·rw[d,e];show xe7
  ·let n:k<j:=m;show(zq9,Yao _)
  ·let n:k<j:=m;lia
  ·let o:f=.oo:=q
   rcases hk with z|z<;>rw[z]at o<;>cases o
 cases c with
 |ei=>show ï e #[new _ jV rfl,qgc]
 |ag=>show ï e #[new _ cO rfl,qgc]
 |ot=>cases e;show Xm d st 0 0 h bW Å
 | oo=>
  cases st with
  |nil=>cases e
  | cons a r=>
   show jf0;split at e
   ·show Α t e;let l:=h.1;let b:=l.lv;let i:=l.lt;refine#[#[by apply a.fs<k+1;show vX i,l.at_,?_,Ú j m s,ô cO,λq=>(by cases q),λ_=>#[i,N6 _,d,?_,l.ei t]],Xm d r 1 1 h.2 bW Å]
    ·apply ŗ jej+CN=Mm;show(xAa,b)
    ·show xn1 l m
     ·show zq9;apply ŗ jej<=_;show(xAa,F7 b)
    ·apply ŗ k=ŗ jej;simp at b;show b.symm
   ·cases e
 | en=>
  cases st with
  |nil=>cases e
  |cons a r=>
   show(jf0,d8 e)
   ·cases e;show Xm d _ 1 0 h.2 bW Å
def QlL(c:uI=zl3)(h:Qji ls k 0 (a::r))(e:stp k .en (a::r)=sO b):Mat ls k a:=by
 show(jf0,d8 e)
 ·rename_i d;refine#[h.1,c,?_]
  rcases h.1.kd with z|z|z
  ·show č z d
  show pK
  ·show ô z
structure Beh(ls:ō)(k:Nat)(c:Cd)(j:Nat):Prop where
 lt:k<j
 at_:AL=sO c
 lv:ŗ j=Mm
 no:∀i,k<i->i<j->ŗ i=Mm->ls[i]?≠sO c
 ge:∀i,k<i->i<=j->Mm<=ŗ i
structure Ahd(ls:ō)(k j:Nat):Prop where
 lt:j<k
 lv:ŗ k=ŗ j+1
 no:∀i,j<i->i<k->ŗ k≠ŗ i+1
 ge:∀i,j<i->i<=k->ŗ k<=ŗ i
def Qmo(m:ze9):Beh ls e.fs .en k:=by
 let h:=m.fit;refine#[h.lt,m.en,by let:=h.lv;show(Ϯ,Int.le_antisymm (F7 this.symm) (F7 this)),λi b a c q=>?_,h.ge];let:=JT q;let g:=h.ge (i+1) (vE b) a;simp[ch]at this;lia
def Qit(m:ze9):Ahd ls k e.fs:=by
 let h:=m.fit;let a:=h.lv
 let f:ŗ sj=lev ls e.fs+1:=by
  rcases h.at_ with q|q<;>show JT q
 refine#[h.lt,ja5 a,ś i c b d,λi c b=>by let g:=h.ge i c b;simp at a;show LO (F7 a.symm) g];let g:=h.ge i c (Nt b);simp at a;lia
def Qp2(m:ze9)(g:BS):Beh ls e.fs .oo e.md:=by
 show xAc g;show#[a,c,d,f,λi j h=>m.fit.ge i j (Nt (Ni h b))]
def Qfj(m:ze9)(p:BS):Beh ls e.md .en k:=by
 show xAc p;let h:=m.fit;let j:=h.lv;let o:=JT c;simp[ch]at o;simp at j;refine#[b,m.en,Ð,λi n l s q=>?_,λi n l=>by let g:=h.ge i (N2 a n) l;show LO (LO (F7 o) (F7 d)) g];let r:=JT q;let g:=h.ge (i+1) (vE (N2 a n)) l;simp[ch]at r;lia
#print"-My3"
namespace My4
open My3
set_option backward.eqns.deepRecursiveSplit false in
abbrev pil(ls:ō):Nat->xb5
 |0=>sO []
 |k+1=>(pil ls k).bind λst=>match uI with|è c=>stp k c st|none=>nO
structure Bk where
 trs:jG
 st:Ì
 rws:ϓ
abbrev top(b:Bk)(f:zoa->zoa):jG:=match b.st with
 |t::_=>b.trs.modify t f
 |[]=>b.trs
abbrev bst(k:Nat)(c:Cd)(b:Bk):Bk:=match c with
 |.ei=>qdj
 |.ag=>qdj
 |.oo=>#[top b qU6,b.st,zGh]
 |.en=>#[top b (ja4 k),b.st.tail,zGh]
 |.ot=>#[b.trs,b.st,zGh]
set_option backward.eqns.deepRecursiveSplit false in
abbrev bks(ls:ō):Nat->Bk
 |0=>zKg
 |k+1=>match uI with|è c=>qB4|none=>bks ls k
abbrev Kd(ls:ō)(e:En):Prop:=(jhi/\zg8=lF)\/((iE\/BS)/\zg8=pb)
inductive Op(ls:ō)(trs:jG):Ì->jq->Prop where
 |nil:Op ls trs [] []
 |cons {t:Nat} {e:En} {st:Ì} {p:jq} (x:∃md en,trs[t]?=sO (e.fs,md,en)/\(BS->md=e.md)) (k:Kd ls e) (n:t∉st) (r:Op ls trs st p):Op ls trs (t::st) (e::p)
structure Cl(ls:ō)(fs md en:Nat)(e:En):Prop where
 m:Mat ls en e
 f:e.fs=fs
 d:BS->e.md=md
 k:Kd ls e
structure BI(ls:ō)(k:Nat)(b:Bk)(p:jq):Prop where
 len:b.rws.length=k
 op:Op ls b.trs b.st p
 cl:∀t x,BQ=sO x->t∉b.st->∃e,Cl ls x.1 x.2.1 x.2.2 e
 ei:∀j,j<k->(AL=pb\/AL=lF)->∃t md en,vc/\BQ=zW1
 oo:∀j,j<k->AL=zih->∃t fs en,vc/\BQ=xtj/\jkj=pb/\∀i:Nat,b.st[i]?=sO t->∃e:En,p[i]?=sO e/\BS
 en:∀j,j<k->AL=zl3->∃t fs md,vc/\BQ=xu0/\t∉b.st
def Op.lt{ls:ō}{a:jG}{st:Ì}{p:jq}(h:xu1):∀t∈st,t<a.length:=by
 induction h with
 |nil=>show Hm t b
 |cons x k n r c=>
  intro t b
  show Ŧ b
  ·let#[d,en,e,_]:=x;show lL e
  ·show c t b
def Op.imp{ls:ō}{b a:jG}{st:Ì}{p:jq}(h:Op ls b st p)(q:∀t∈st,a[t]?=b[t]?):xu1:=by
 induction h with
 |nil=>show .nil
 |cons x k n r c=>show .cons (by rw[q _ NF];show x) k n (c (π t d q))
def QbN(h:t<l.length):(l++[x])[t]?=l[t]?:=NC h
def K4{l:ä a}(h:l[t]?=sO x):t<l.length:=à h
def ZW(a:l.length=k)(b:j<k)(h:l[j]?=sO y):(l++[x])[j]?=sO y:=by rw[QbN (Ng b (ī a))];show h
def Qag(a:l.length=k):(l++[x])[k]?=sO x:=by subst a;simp
def Qjx{l:jG}(h:t≠s):(l.modify t f)[s]?=l[s]?:=by
 rw[L4];simp[h]
def QiI{l:jG}(h:l[t]?=sO x):(l.modify t f)[t]?=sO (f x):=by
 rw[L4,h];simp
def Qlx {p X:List En} (h:BI ls k b p) (hf:Qji ls k 0 p) (F:ls[k]?=sO c) (e:stp k c p=sO X):BI ls (k+1) (bst k c b) X:=by
 let old:∀j,j<k+1->j≠k->j<k:=λj a b=>by lia
 let S:(c=.ei\/c=.ag)->X=#[c,k,0]::p->BI ls (k+1) #[b.trs++[(k,k,k)],b.trs.length::b.st,b.rws++[sO b.trs.length]] X:=λhk hp=>by
  subst hp;let hn:b.trs.length∉b.st:=λz=>El _ (h.op.lt _ z);let keep:∀t x,b.trs[t]?=sO x->(b.trs++[(k,k,k)])[t]?=sO x:=λt x z=>by rw[QbN (K4 z)];show z
  refine#[by simp[h.len],.cons #[k,k,by simp,λz=>?_] ?_ hn (h.op.imp λt H=>QbN (h.op.lt t H)),λt x J P=>?_,λj f d=>?_,λj f d=>?_,λj f d=>?_]
  ·rcases hk with B|B<;>rw[B]at z<;>cases z
  ·unfold Kd
   rcases hk with B|B
   ·show .inr #[.inl B,by rw[F,B]]
   ·show .inl #[B,by rw[F,B]]
  ·let H:t≠b.trs.length:=λz=>P (by rw[z];show NF);let aa:t<b.trs.length:=by let:=K4 J;simp at this;lia
   rw[QbN aa]at J;show h.cl t x J λz=>P (NB _ z)
  ·by_cases z:j=k
   ·subst z;show#[b.trs.length,j,j,Qag h.len,by simp]
   ·let#[t,E,en,o,l]:=h.ei j (old j f z) d;show#[t,E,en,ZW h.len (old j f z) o,keep _ _ l]
  ·by_cases z:j=k
   ·subst z;rw[F]at d;rcases hk with B|B<;>rw[B]at d<;>cases d
   ·let#[t,fs,en,o,l,v,Q]:=h.oo j (old j f z) d;refine#[t,fs,en,ZW h.len (old j f z) o,keep _ _ l,v,λi C=>?_];cases i with
    |zero=>simp at C;let:=K4 l;lia
    |succ i=>simp at C;let#[e,M,L]:=Q i C;show#[e,by simpa using M,L]
  ·by_cases z:j=k
   ·subst z;rw[F]at d;rcases hk with B|B<;>rw[B]at d<;>cases d
   ·let#[t,fs,E,o,l,v]:=h.en j (old j f z) d;refine#[t,fs,E,ZW h.len (old j f z) o,keep _ _ l,λq=>?_]
    rcases NJ.mp q with q|q
    ·let:=K4 l;show OY (Nv q.symm) this
    ·show v q
 cases c with
 |ei=>show S (.inl rfl) (by cases e;rfl)
 |ag=>show S (.inr rfl) (by cases e;rfl)
 | ot=>
  cases e;refine#[by simp[bst,h.len],h.op,h.cl,λj f d=>?_,λj f d=>?_,λj f d=>?_]
  ·by_cases z:j=k
   ·subst z;rw[F]at d;rcases d with d|d<;>cases d
   ·let#[t,E,en,o,l]:=h.ei j (old j f z) d;show#[t,E,en,ZW h.len (old j f z) o,l]
  ·by_cases z:j=k
   ·subst z;rw[F]at d;cases d
   ·let#[t,fs,en,o,l,v]:=h.oo j (old j f z) d;show#[t,fs,en,ZW h.len (old j f z) o,l,v]
  ·by_cases z:j=k
   ·subst z;rw[F]at d;cases d
   ·let#[t,fs,E,o,l,v]:=h.en j (old j f z) d;show#[t,fs,E,ZW h.len (old j f z) o,l,v]
 | oo=>
  cases p with
  |nil=>cases e
  | cons a r=>
   simp only[stp]at e;split at e
   ·rename_i ha;cases e;let#[u,st,Z]:=b;let N:=h.op;cases N with
    | @cons t _ st _ x kk n q=>
     let#[E,en,H,I]:=x;simp only at H I
     let U:ls[a.fs]?=sO .ei:=by
      rcases kk with z|z
      ·rw[ha]at z;cases z.1
      ·show z.2
     let g:∀s,s≠t->(u.modify t λx=>(x.1,k,x.2.2))[s]?=u[s]?:=λs m=>Qjx (N8 m);let w:(u.modify t λx=>(x.1,k,x.2.2))[t]?=sO (a.fs,k,en):=QiI H;refine#[by simp[bst,h.len],?_,λs x J P=>?_,λj f d=>?_,λj f d=>?_,λj f d=>?_]
     ·show .cons #[k,en,w,λ_=>rfl] (.inr #[.inr rfl,U]) n (q.imp λs m=>g s λz=>n (z▸m))
     ·let ab:s≠t:=λz=>P (by rw[z];show NF);let D:u[s]?=sO x:=by rw[<-g s ab];show J
      show h.cl s x D P
     ·by_cases z:j=k
      ·subst z;rw[F]at d;rcases d with d|d<;>cases d
      ·let#[s,y,A,o,l]:=h.ei j (old j f z) d
       by_cases m:s=t
       ·subst m;rw[H]at l;cases l;show#[s,k,en,ZW h.len (old _ f z) o,w]
       ·show#[s,y,A,ZW h.len (old j f z) o,(g s m).trans l]
     ·by_cases z:j=k
      ·rw[z];refine#[t,a.fs,en,Qag h.len,w,U,λi C=>?_];cases i with
       |zero=>show#[_,rfl,rfl]
       |succ i=>simp[bst]at C;show absurd (NN.mpr #[i,C]) n
      ·let#[s,fs,A,o,l,v,Q]:=h.oo j (old j f z) d
       by_cases m:s=t
       ·subst m;let#[Y,M,L]:=Q 0 (by simp);simp at M;subst M;rw[ha]at L;cases L
       ·refine#[s,fs,A,ZW h.len (old j f z) o,(g s m).trans l,v,λi C=>?_];let#[Y,M,L]:=Q i C;cases i with
        |zero=>simp[bst]at C;show absurd C.symm m
        |succ i=>show#[Y,by simpa using M,L]
     ·by_cases z:j=k
      ·subst z;rw[F]at d;cases d
      ·let#[s,fs,y,o,l,v]:=h.en j (old j f z) d;let m:s≠t:=λz=>v (by rw[z];show NF);show#[s,fs,y,ZW h.len (old j f z) o,(g s m).trans l,v]
   ·cases e
 | en=>
  cases p with
  |nil=>cases e
  | cons a r=>
   let ae:=QlL F hf e;simp only[stp]at e;split at e
   ·cases e
   ·rename_i ha;cases e;let#[u,st,Z]:=b;let N:=h.op;cases N with
    | @cons t _ st _ x kk n q=>
     let#[E,en,H,I]:=x;simp only at H I;let g:∀s,s≠t->(u.modify t λx=>(x.1,x.2.1,k))[s]?=u[s]?:=λs m=>Qjx (N8 m);let w:(u.modify t λx=>(x.1,x.2.1,k))[t]?=sO (a.fs,E,k):=QiI H;refine#[by simp[bst,h.len],?_,λs x J P=>?_,λj f d=>?_,λj f d=>?_,λj f d=>?_]
     ·show q.imp λs m=>g s λz=>n (z▸m)
     ·by_cases m:s=t
      ·subst m;let D:(u.modify s λx=>(x.1,x.2.1,k))[s]?=sO x:=J;rw[w]at D;cases D;show#[a,ae,rfl,λz=>(I z).symm,kk]
      ·let D:u[s]?=sO x:=by rw[<-g s m];show J
       show h.cl s x D λz=>by
        rcases NJ.mp z with z|z
        ·show m z
        ·show P z
     ·by_cases z:j=k
      ·subst z;rw[F]at d;rcases d with d|d<;>cases d
      ·let#[s,y,A,o,l]:=h.ei j (old j f z) d
       by_cases m:s=t
       ·subst m;rw[H]at l;cases l;show#[s,E,k,ZW h.len (old _ f z) o,w]
       ·show#[s,y,A,ZW h.len (old j f z) o,(g s m).trans l]
     ·by_cases z:j=k
      ·subst z;rw[F]at d;cases d
      ·let#[s,fs,A,o,l,v,Q]:=h.oo j (old j f z) d
       by_cases m:s=t
       ·subst m;rw[H]at l;cases l;show#[s,a.fs,k,ZW h.len (old _ f z) o,w,v,λi C=>absurd (NN.mpr #[i,C]) n]
       ·refine#[s,fs,A,ZW h.len (old j f z) o,(g s m).trans l,v,λi C=>?_];let#[Y,M,L]:=Q (i+1) (by simpa[bst]using C);show#[Y,by simpa using M,L]
     ·by_cases z:j=k
      ·rw[z];show#[t,a.fs,E,Qag h.len,w,n]
      ·let#[s,fs,y,o,l,v]:=h.en j (old j f z) d;let m:s≠t:=λz=>v (by rw[z];show NF);show#[s,fs,y,ZW h.len (old j f z) o,(g s m).trans l,λz=>v (NB _ z)]
def Qbf:∀{k:Nat} {p:jq},zi3=sO p->Qji ls k 0 p/\BI ls k qO2 p:=by
 intro k
 induction k with
 |zero=>
  intro p e;show ï e #[True.intro,#[rfl,.nil,λt x h=>by simp[bks]at h,λj h=>Ð,λj h=>Ė,λj h=>Ė]]
 | succ k g=>
  intro p e;show(ē q i d e,uY f b g i);cases a:uI with
  |none=>show ð a d
  |some c=>
   rw[a]at d;refine#[QgV a f d,?_];let:bks ls (k+1)=qB4:=by simp only[bks,a]
   rw[this];show Qlx b f a d
abbrev Bal(ls:ō):Prop:=xb6=sO []
structure Found(ls:ō)(b:Bk):Prop where
 len:b.rws.length=ls.length
 ei:∀j,AL=pb->∃t md en,vc/\BQ=zW1/\Beh ls j .oo md
 ag:∀j,AL=lF->∃t md en,vc/\BQ=zW1/\xe8
 oo:∀j,AL=zih->∃t fs en,vc/\BQ=xtj/\xe8
 en:∀j,AL=zl3->∃t fs md,vc/\BQ=xu0/\Ahd ls j fs/\(jkj=pb\/jkj=lF)
def U3(h:Bal ls):Found ls (bks ls ls.length):=by
 let#[_,b]:=Qbf h
 let o:zK3=[]:=by
  let:=b.op;generalize zK3=s at this;cases this;rfl
 let nm:∀t,t∉zK3:=λt=>Sr o
 refine#[b.len,Ó j a,Ó j a,Ó j a,Ó j a]
 ·let#[t,i,en,g,c]:=b.ei j wX (ŧ a);show oz
  let n:BS:=by
   show jGj a
   ·show jN7
  refine qX9;let:=Qp2 m n;rw[f,d n]at this;show this
 ·let#[t,i,en,g,c]:=b.ei j wX (ü a);show oz;refine qX9;let:=Qmo m;show zcc f
 ·let#[t,fs,en,g,c,p,_]:=b.oo j wX a;show oz
  let n:BS:=by
   show jGj p
   ·show jN7
  refine#[t,fs,en,g,c,?_];let:=Qfj m n;rw[d n]at this;show this
 ·let#[t,fs,i,g,c,_]:=b.en j wX a;show oz;refine#[t,fs,i,g,c,?_,?_]
  ·let:=Qit m;show zcc f
  ·let:=m.fit.at_;show zcc f
#print"-My4"
namespace My
open L2 Mi My3 My4
def Uj(f:Fd)(m:Int):∃p:Int×Fd,(0<m->0<=p.1/\p.1<m)/\(0<m->je1->∀(h:MH) (n:Nat),CB->zF8=sO (Ti p,ϝ (Q0 p.2))):=by
 show ϋ a b j f
 by_cases h:0<a
 ·refine#[(a%m,#[a/m,b,j]),jw c qG1,λc i g n e=>jm2];let d:xpb:=Ð
  simp[JU,QD,h,c,d,Q0]
 ·refine#[(qv4/8191%m,#[a,qv4,zJh,Int.lt_trans (D7 _ Ñ) Ñ]),jw c qG1,λc i g n e=>jm2];let d:xpb:=Ė
  simp[JU,QD,h,c,d,Q0]
abbrev tk(f:Fd)(m:Int):Int:=(Classical.choose zgj).1
abbrev tf(f:Fd)(m:Int):Fd:=(Classical.choose zgj).2
def Y8(a:0<m):0<=tk f m/\tk f m<m:=(YaF zgj).1 a
def Qbh(c:0<m)(a:je1)(b:CB):zF8=sO (Â (tk f m),ϝ (Q0 (tf f m))):=(YaF zgj).2 c a h n b
@[simp]def Xc(d:0<m)(a:je1)(c:jk8):zF8=sO (Â (tk xAd m),ϝ (Q0 (tf xAd m))):=by
 show ĉ f b c;rw[Qbp b];show Qbh d a b
noncomputable abbrev abc:Str:="abcdefghijklmnopqrstuvwxyz"
def Qat(x:Str)(n:Int):(rep x n).length=n.toNat*x.length:=by show xl7
def Qaz(x y:Str):(x++y).length=x.length+y.length:=by apply(x.cps++y.cps).size=_;simp[Str.length]
def QlP:abc.length=26:=Cy
abbrev ltr(i:Int):Str:=#[#[97+i.toNat,]]
def Qna:abc.cps.toList=(List.range 26).map (97+·):=Cy
@[simp]def Qj0:(ltr i).length=1:=rfl
@[simp]def Quh(h0:0<=i)(h1:i<26):CM zZ4=sO (Ü (ltr i),h):=by
 show jX0
 refine Qj8 (by rw[QlP];decide) ?_;rw[QJ,Qna,Np,EZ Í];rfl
def VC(e:zj9=sO ([Â j],h'))(a:j<1000000):YT ms σ h=sO (QA 0 j,nO,h'):=by
 unfold YT;rw[e,Nj];show(if_pos #[Ð,Ð]).trans Å
def Zn:(QA a n).length=n:=xAe
def Gu:(QA a n).map f=(List.range n).map λ HA=>f (Ĕ (a+i)):=xAe
def Qtm(h0:0<=i)(h1:i<6):∃v:Int,(v=1\/qG2)/\atI [W.int 1,.int 3,.int 5,.int 7,.int 9,.int 11] i=Ĝ v:=by
 let#[x,_,a,e]:=QeL (xs:=jJf) (f:=W.int) (P:=λv=>v=1\/qG2) h0 h1 Ñ;show#[x,a,e]
def QtH(h0:0<=i)(h1:i<8):∃v:Int,1<=v/\xeb/\atI [W.int 1,.int 3,.int 4,.int 5,.int 6,.int 7,.int 8,.int 1] i=Ĝ v:=by
 let#[x,_,a,e]:=QeL (xs:=[Tf,3,4,5,6,7,8,1]) (f:=W.int) (P:=λv=>1<=v/\xeb) h0 h1 Ñ;show#[x,a.1,a.2,e]
def K9{l:ä j}(h:∀a∈l,∀b∈l,f a=f b->a=b)(d:l.Nodup):(l.map f).Nodup:=by
 unfold List.Nodup;rw[FZ];show FH (λi g c e=>c (h _ i _ g e)) d
def Uq{t st:Int}{a b:Nat}(d:st=1\/st=3\/st=5\/st=7\/st=9\/st=11)(f:a<5)(e:b<5)(h:((t+st*(0+jla))%26).toNat=((t+st*(0+(b:Int)))%26).toNat):a=b:=by
 rw[II,II]at h;show(qub l (t+st*a),qub j jf1);let i:(t+st*a)%26=jf1%26:=by rw[<-FI l,<-FI j,h]
 let c:=Int.emod_eq_emod_iff_emod_sub_eq_zero.mp i;let g:t+st*a-jf1=st*(jla-b):=by rw[Int.mul_sub];lia
 rw[g]at c;let key:∀a:Fin 5,∀b:Fin 5,∀st∈jJf,st*((a.val:Int)-b.val)%26=0->a=b:=õ
 show Fin.mk.inj (key (ę a f) (ę b e) st (ĝ d) c)
def Qj9(h:a++ltr i++b=a++ltr j++b):i.toNat=j.toNat:=by
 let e:∀x y:Str,qm7:=λx y=>qs7
 let c:=congrArg (λs:Str=>s.cps.toList) h;simp only[e]at c;simp[ltr]at c;show c
abbrev Qkr:Á:=["pair","first","second","none","tell","back","either","or","again","end","do","part"]
structure Nm(x:Str):Prop where
 lo:1<=x.length
 hi:x.length<=8
 sm:∀c∈x.cps.toList,97<=c/\c<=122
 kp:x∉Qkr
def Qdu(x y:Str):qm7:=qs7
def Qak{i:Int}{n:Nat}(h:i.toNat=n):(rep (ltr j) i).cps.toList=List.replicate n (97+j.toNat):=by
 subst h;unfold rep;simp[ltr]
abbrev two(l:Ì):Prop:=∀c,qv6
def Qpn{l:Ì}(h:∀c∈l,qv6)(d:2<=l.length):two l:=λc=>by
 by_cases a:c∈l
 ·show h c a
 ·rw[Iz.mpr λx b=>by show Hw a (z▸b)];show d
def QbP:∀x∈Qkr,x.cps.toList.length=2/\x.cps.toList.length≠1/\(∀c,x.cps.toList≠List.replicate 2 c)\/two x.cps.toList:=by
 intro x a;let h:∀x∈Qkr,(Ho\/x="do")\/((∀c∈x.cps.toList,2<=(x.cps.toList.filter λy=>y != c).length)/\2<=x.cps.toList.length):=Cy
 rcases h x a with(rfl|rfl)|h
 ·show .inl #[Cy,Cy,λc z=>by
   let e:("or":Str).cps.toList=[111,114]:=Cy
   show qB5]
 ·show .inl #[Cy,Cy,λc z=>by
   let e:("do":Str).cps.toList=[100,111]:=Cy
   show qB5]
 ·show ô (Qpn h.1 h.2)
def Uv(x:Str):x.length=x.cps.toList.length:=by unfold Str.length;simp
def WT(n c:Nat):(List.replicate n c).filter (λx=>x != c)=[]:=DG.mpr λy a=>by rw[O0 a];simp
def Qqv{x:Str}{c n:Nat}(e:x.cps.toList=zUj n)(h1:1<=n)(h2:n<=8)(h:97<=c)(g:c<=122):Nm x:=by
 refine#[by rw[Uv,e];show jx h1,by rw[Uv,e];show jx h2,λd hd=>by rw[e]at hd;rw[O0 hd];show C6 h g,λhk=>?_]
 rcases QbP x hk with⟨a,_,f⟩|b
 ·rw[e]at a;show(j6 a,f c e)
 ·let:=b c;rw[e]at this;rw[WT]at this;show Ϯ
def Qoh{x:Str}{c d a b:Nat}(e:x.cps.toList=zUj a++[d]++zUj b)(h1:a+1+b<=8)(h2:a+1+b≠2)(i:97<=c)(h:c<=122)(m:97<=d)(l:d<=122):Nm x:=by
 refine#[qJh,qJh,Ó y f,λhk=>?_]
 ·show iV e f
  rcases f with⟨_,rfl⟩|rfl|⟨_,rfl⟩
  show Ħ #[i,h]
  show Ħ #[m,l]
  show Ħ #[i,h]
 ·rcases QbP x hk with⟨g,_,n⟩|j
  ·show iV e g;omega
  ·let:=j c;rw[e,DM,DM]at this;rw[WT,WT]at this;let o:([d].filter xAg).length<=1:=E2 _ _;simp only[Dj,EN]at this;omega
def Qsl{x:Int}(h0:0<=x)(h1:x<26):97+x.toNat<=122:=
 Es (Ld ((Int.toNat_lt h0).mpr h1)) 97
def Ql2{p s:Int}(h0:0<=p)(h1:p<s):p.toNat+1+(s-1-p).toNat=s.toNat:=by
 let#[a,rfl]:=FJ h0;let#[c,d]:=FJ (show 0<=s-1-jla from Int.sub_nonneg_of_le (Int.le_sub_one_of_lt h1));let b:s=((a+1+c:Nat):Int):=Ð
 rw[d,b];rfl
def UP(f:Fd)(many:Nat)(p:many<=5):∃(ns:Á) (Y:Fd),ns.length=many/\(ns.Nodup/\∀x∈ns,Nm x)/\∀(h:MH) (n:Nat),CB->JR [Ä n,.int many] h=sO (Z4 ns,Pr Y):=by
 let#[v,u]:=Y8 (f:=f) (m:=26) Ñ
 by_cases M:tk qE3 3=0
 ·refine#[(List.range many).map λ(k:Nat)=>rep bJ (jn+k+1),qJi,Ç,#[K9 (λa _ b _ e=>?_) Ir,Ÿ C],Ú h n F]
  ·let:=congrArg Str.length e;rw[Qat,Qat,Qj0]at this;lia
  ·show jN8;let H:=Ep.mp hk;show Qqv (c:=qU7) (n:=k+1) (Qak ĥ) uj (ja (Ng H p)) Ů xAh
  ·refine oj F
   let e:=ZS (fin:=Zf) (mi:=YT AW) (cp:=BN) (me:=Qe KA Ö zsh) (σ:=[sO ç,sO (.int many),sO zZ4,sO (Ay bJ),nO,nO,nO,nO,nO]) (caps:=[sO (Ay bJ)]) (h:=[Q0 (tf qE3 3)]) (items:=QA 0 many)
    (jr9 (rep bJ (k+1))) (VC Å (ź p)) û (λw hw=>by
     show Rv;simp at hk;simp
     show QdP #[Ð,Ð,Ç]) (by show qk4)
   simp -implicitDefEqProofs [Jm,QD,v,u,M,e,Zf,Z4,Gu]
 ·generalize I:qJi=f2;let#[b0,b1]:=Y8 (f:=f2) (m:=26) Ñ;let#[c0,c1]:=Y8 (f:=tf f2 26) (m:=6) Ñ;let#[d0,d1]:=Y8 (f:=tf zI6 6) (m:=8) Ñ;let#[st,D,es]:=Qtm c0 c1;let s0:0<=st:=Ð
  let s1:st<=11:=Ð
  let#[sz,z0,y,Z]:=QtH d0 d1;let#[s,r]:=Y8 (f:=tf qbd 8) (m:=sz) Í;generalize E:tk jYj sz=i at s r;generalize q:ltr qv7=j;let l:j.length=1:=by rw[<-q];rfl
  let N:∀n:Int,(rep j n).length=n.toNat:=λn=>by rw[Qat,l];show D6 _ _
  refine#[(List.range many).map λ(k:Nat)=>rep j i++ltr (zBc%26)++rep j zQj,tf jYj sz,Ç,#[K9 (λa X b U e=>?_) Ir,Ÿ C],Ú h n F]
  ·let:=Qj9 e;let L:=Ep.mp X;let J:=Ep.mp U;show Uq D (Ng L p) (Ng J p) this
  ·show(jN8,jZ5 zBc);subst q;show Qoh (c:=qU7) (d:=97+(zBc%26).toNat) (a:=i.toNat) (b:=xi2) (by rw[Qdu,Qdu,Qak rfl,Qak rfl];rfl) (by rw[jl0];show Int.toNat_le.mpr y.1) (by rw[jl0];show λz=>y.2 Í) Ů xAh Ů (Qsl A q2)
  ·refine oj F;show jU5 e1 (Ĕ zQj) (Ü qDa,_);let S:jn<sz:=xec
   let B:sz<1000000:=Ð
   simp -implicitDefEqProofs [Jm,QD,v,u,M,I,q,b0,b1,es,Z,S,B,E,e1];rw[ZS (items:=QA 0 many) (caps:=[sO (Ay qDa),Ϸ j,Ĝ i,sO zZ4,sO (Ĕ (tk f2 26)),sO (.int st)]) (jr9 (rep j i++ltr ((zZ5+st*k)%26)++rep j zQj))]
   ·simp[Zf,Z4,Gu]
   ·show VC Å (ź p)
   show dS û
   ·intro w hw;show Rv;simp at hk;show(jU5 e2 Į (Ü (rep j i),_),jZ5 (zZ5+st*ğ));let q3:zJb<st:=Ð
    let q4:st<18446744073709551616:=Ð
    let Q:i.toNat+1<=sizeLine:=JC Í;let P:i.toNat+1+xi2<=sizeLine:=by rw[jl0];show JC (ja (Int.toNat_le.mpr y.1))
    simp[e2,A,q2,q3,q4,N,Q,P,Qaz]
   ·show qk4
inductive PlainL(bs ws:Á):Ln->Prop where
 |pair {x w y z:Str} (hx:pd) (hw:w∈ws) (hy:zl4) (hz:z∈bs):BM zPh
 |first {x y:Str} (hx:pd) (hy:zl4):BM xn3
 |second {x y:Str} (hx:pd) (hy:zl4):BM xi3
 |same {x y:Str} (hx:pd) (hy:zl4):BM xu2
 |none {x:Str} (hx:pd):BM ["none",x]
 |tell {x:Str} (hx:pd):BM ["tell",x]
def QdY{xs:Á}{i:Int}(h0:0<=i)(h1:zXi):∃x,x∈xs/\atI (xs.map W.str) i=Ϸ x:=by
 let#[x,a,_,e]:=QeL (xs:=xs) (f:=W.str) (P:=λ_=>True) h0 h1 (λ_ _=>True.intro);show#[x,a,e]
def Qhh(f:Fd)(bs ws:Á)(r:dC)(p:df)(hw:dD)(e:jS):∃(l:Ln) (B:Fd),BM l/\∀(h:MH) (n:Nat),CB->Km [Ä n,Z4 bs,Z4 ws] h=sO (QR l,Pr B):=by
 let#[a0,Z]:=Y8 (f:=f) (m:=10) Ñ;let b:jn<bs.length:=Ð
 let q2:(bs.length:Int)<1000000:=Ð
 let q3:jn<ws.length:=Ð
 let q4:(ws.length:Int)<1000000:=Ð
 let Y:bs≠[]:=by intro z;show iV z r
 let X:ws≠[]:=by intro z;rw[z]at hw;simp at hw
 let U:bs.length<1000:=by show uc p
 let S:ws.length<1000:=by show uc e
 let#[N,M]:=Y8 (f:=tf f 10) (m:=bs.length) b;let#[x,a,u]:=QdY N M;let#[L,J]:=Y8 (f:=tf zb1 bs.length) (m:=bs.length) b;let#[y,c,t]:=QdY L J
 by_cases s:zja<4
 ·let#[I,H]:=Y8 (f:=qfc) (m:=bs.length) b;let#[z,A,C]:=QdY I H;let#[F,E]:=Y8 (f:=tf qe9 bs.length) (m:=ws.length) q3;let#[w,hw,D]:=QdY F E;refine#[_,tf (tf qe9 bs.length) ws.length,.pair a hw c A,Ú h n j];refine oj j;simp[Jn,QD,Z4,Xc b q2,Xc q3 q4,u,t,C,D,s,QR]
 ·let q:0<=zja-4:=Ð
  let#[l,_,d,v]:=QeL (xs:=([xn3,xi3,xu2,["none",x],["tell",y],["tell",x]]:Ġ)) (i:=zja-4) (f:=QR) (P:=PlainL bs ws) q (by apply zja-4<6;lia) (by
   show Hm l d
   rcases d with rfl|rfl|rfl|rfl|rfl|rfl
   ·show .first a c
   ·show .second a c
   ·show .same a c
   ·show .none a
   ·show .tell c
   ·show .tell a)
  refine#[l,qfc,d,Ú h n j];refine oj j;simp[QR]at v;simp[Jn,QD,Z4,Xc b q2,u,t,s,v,QR]
#print"-My"
namespace My4
open My3
abbrev kst:Cd->ō->xb7
 |.ei,s=>sO (.ei::s)
 |.ag,s=>sO (.ag::s)
 |.oo,s=>match s with
  |e::r=>if e=.ei then sO (.oo::r)else nO
  |[]=>nO
 |.en,s=>match s with
  |e::r=>if e=.ei then nO else sO r
  |[]=>nO
 |.ot,s=>sO s
abbrev Yh:ō->ō->xb7
 |[],s=>sO s
 |c::ls,s=>(kst c s).bind (Yh ls)
def QaU:∀(ls ms:ō) (s:ō),Yh (ls++ms) s=(Yh ls s).bind (Yh ms):=by
 intro ls
 induction ls with
 |nil=>
  intro ms s;show rfl
 |cons c ls a=>
  intro ms s;apply(kst c s).bind (Yh (ls++ms))=((kst c s).bind (Yh ls)).bind (Yh ms);cases kst c s with
  |none=>rfl
  |some t=>show a ms t
def VR(h:Yh ls s=sO t)(k:kst c t=sO u):Yh (ls++[c]) s=sO u:=by
 rw[QaU,h];apply(kst c t).bind _=_;rw[k];rfl
def Qk4{k:Nat}{c:Cd}{st:jq}:(stp k c st).map qU8=kst c (st.map En.kd):=by
 cases c with
 |ei=>rfl
 |ag=>rfl
 |ot=>rfl
 | oo=>
  cases st with
  |nil=>rfl
  |cons e r=>
   show qm8
 | en=>
  cases st with
  |nil=>rfl
  |cons e r=>
   show qm8
def Qii:∀{k:Nat},xu3->(pil ls k).map qU8=Yh (ls.take k) []:=by
 intro k
 induction k with
 |zero=>
  show sf
 | succ k c=>
  intro hk;let a:k<ls.length:=by show hk
  let b:=c (Nt hk);let d:ls.take (k+1)=ls.take k++[ls[k]]:=by rw[Lz a]
  rw[d,QaU,<-b];simp only[pil];rw[Nl a];cases zi3 with
  |none=>rfl
  |some p=>
   apply(stp k ls[k] p).map _=(kst ls[k] (p.map En.kd)).bind (Yh []);rw[<-Qk4];cases stp k ls[k] p<;>rfl
def bal_iff:Bal ls↔Yh ls []=sO []:=by
 let:=Qii (ls:=ls) (k:=ls.length) ĕ;rw[Ef]at this;rw[<-this];unfold Bal;cases xb6 with
 |none=>simp
 |some p=>simp
#print"-My4"
namespace My
open L2 Mi My3 My4
abbrev cd(x:Str):Cd:=if BE then .ei else if vN then .ag else if Ho then .oo else if lu then .en else .ot
abbrev cdL:Ln->Cd
 |[]=>.ot
 |x::_=>cd x
inductive LineOk(bs ws later:Á):Ln->Prop where
 |plain {l:Ln} (h:BM l):qZ l
 |do {x:Str} (h:x∈later):qZ xi4
 |blk {x:Str} (h:BE\/vN\/Ho\/lu):qZ [x]
 |back {x:Str} (h:x∈ws):qZ ["back",x]
noncomputable abbrev orL:Ln:=["or"]
noncomputable abbrev QlX:Ln:=["end"]
abbrev Yd:jhj
 |x::_=>x=="do"
 |[]=>false
abbrev dcn(ls:Ġ):Nat:=ls.countP Yd
def UO(L:Ġ)(l:Ln):dcn sG=dcn L+(if AI then 1 else 0):=by simp[dcn,Ybf,O1]
def KI{L:Ġ}(h:jc0):dcn sG=dcn L:=by rw[UO,h];rfl
def Qhb{bs ws:Á}(h:BM l):jc0:=qlb
def Yg:cd "again"=.ag:=õ
def Qn8:cd "or"=.oo:=õ
def Qbm:cd "end"=.en:=õ
def QgS{bs ws:Á}(h:BM l):jf2:=by cases h<;>(apply cd _=.ot)<;>decide
@[simp]def Ww(hi:h[i]?=dc)(c:h[j]?=zIh)(b:de)(a:zea):ZM jh2 [i,j]=sO [zgf,iO]:=by
 simp[ZM,Uc hi b,Uc c a]
def Qi6{O:Á}(d:xa5)(a:i≠j)(hi:jp1)(e:h[j]?=sO (Ë qoj)) :
  qtb=sO (.non,(h.set i (Ë jI6)).set j (Ë jE7)):=by
 refine XY (w:=.non) (as:=[Ţ,Tn]) (ns:=[i,j]) (os:=[À vB,À qoj]) (os':=[À jI6,À jE7]) (g:=[]) rfl (ν a) (qtc e) ?_ rfl ?_ rfl
 ·let f:xH:=Qb7 (zh d);simp[ZT,QD,f,QR]
 ·show jt7
def QjE{O:Á}{x:Str}(d:zb2)(e:xa5)(a:i≠j)(hi:jp1)(f:h[j]?=sO (Ë zJi)) :
  qtb=sO (.non,(h.set i (Ë jI7)).set j (qG O)):=by
 refine XY (w:=.non) (as:=[Ţ,Tn]) (ns:=[i,j]) (os:=[À vB,À zJi]) (os':=[À jI7,yk O]) (g:=[]) rfl (ν a) (qtc f) ?_ rfl ?_ rfl
 ·let l:xH:=Qb7 jjc;simp[ZT,QD,l,QR,d]
 ·show jt7
abbrev QmQ:jhj
 |x::_=>x=="back"
 |[]=>false
abbrev Dp(D:Int)(L:Ġ):Prop:=∀A B s,L=A++B->za5 A=sO s->qXa
def QpG(h:0<=D):Dp D []:=λA B s e hk=>by
 let#[rfl,rfl]:=List.append_eq_nil_iff.mp e.symm;cases hk;show h
def XU(h:Dp D L)(hk:qo6=sO s)(d:qXa):Dp D sG:=λA B c e a=>by
 rcases LG B with rfl|⟨f,b,rfl⟩
 ·rw[EN]at e;subst e;rw[hk]at a;show Ω a d
 ·rw[Ig,<-Ey]at e;show h A f c (List.append_inj_left' e rfl) a
def Qim{bs ws:Á}(h:BM l):vU:=qlb
structure PI(bs ws later:Á)(size d0 o0:Int)(n:Nat)(σ:MSt)(h:MH):Prop where
 ex:∃(f:Fd) (L:Ġ) (O:Á) (op ds:Int) (kk ww:Û),σ=[sO ç,bO,Co,tz,zOd,sO (.int ds),Ν,cg,kk,ww]/\h=zqa /\
  (zx2 L)/\za5 L=vm O/\jo0/\L.length=n/\O.length<=n/\(dcn L:Int)+ds=d0/\0<=ds/\zS0+op<=o0/\0<=op/\Dp o0 L/\∀l∈L,vU
def Qmh(O:Á)(h:O≠[]):∃r x,O=r++[x]:=qwb O
def Qa6{bs ws later:Á}:LineOk bs ws later QlX:=.blk (ü (Tu cO))
def QfR{bs ws later:Á}:LineOk bs ws later orL:=.blk (ü (Tu jV))
def Zg{P:a->Prop}{xs:ä a}(h:∀y∈xs,P y)(c:P x):∀y∈xs++[x],P y:=λy b=>by
 show P4 b z h y
 ·show Bp z c
def Qd2{P:Str->Prop}(h:∀z∈xs++[x],P z)(b:P y):∀z∈xs++[y],P z:=Zg (λz a=>h z MP) b
def Kn(O:Á)(x:Str):(O++[x]).reverse.map cd=cd x::O.reverse.map cd:=Ç
def VJ(L:Ġ)(l:Ln):(L++[l]).map cdL=L.map cdL++[cdL l]:=Ç
def opk{x:Str}(h:zs9)(a:zb2):cd x≠.ei:=by
 rcases h with rfl|rfl|rfl
 ·show T4 a
 ·decide
 ·decide
def QiS{s:ō}(h:cd x≠.ei):kst .en (cd x::s)=sO s:=by simp[kst,h]
noncomputable abbrev pS(bs ws later:Á)(size op a:Int)(k:W)(way:Int):MSt:=[sO ç,bO,Co,tz,zOd,Ĝ a,Ν,cg,sO k,sO qO3]
def QfH{bs ws later:Á}{σ:MSt}(hb:dC)(Z:df)(hw:dD)(X:jS)(aa:xed)(N:n<=1000)(H:xAj n σ h) :
  ∃σ1,QM 8 k σ h=zkj/\∃σ2 h2,(Jr σ1 h=Pu\/Jr σ1 h=zJ2)/\xAj (n+1) σ2 h2:=by
 let#[f,L,O,op,t,kk,ww,rfl,rfl,hL,hk,D,A,e,v,w,p,u,s,q]:=H.ex;refine eO;let#[a0,a1]:=Y8 (f:=f) (m:=14) Ñ;let B:xH:=Qb7 jjd;let Y:O.length<sizeLine:=Qb7 (Nt (ź (Nh e N)));generalize g:tk f 14=c at a0 a1;let J:∀h,Z2 (Qg qk2) (ĭ (yp Ą)) zE2 h=sO (decide (c<3/\0<op),h):=λh=>by by_cases a:c<3<;>simp[a]
 let U:∀f,Z2 (Qg qk3) zA2 zE2 zqa=sO (decide (c<6/\0<O.length),zqa):=λh=>by by_cases a:c<6<;>simp[a]
 let t3:∀h,Z2 (Qg (Qe S7 T0 jY1)) qh8 zE2 h=sO (decide (xs3/\qR4),h):=λh=>by
  by_cases a:c=6\/c=7
  ·by_cases b:0<t<;>simp[a,b]
  ·simp[a]
 by_cases I:c<3/\0<op
 ·let#[x,_,o,Q]:=QeL (xs:=([qC6,"again","either"])) (f:=W.str) (P:=λx=>BE\/vN) a0 (by apply c<3;show I.1) Å;simp at Q
  let d:Yh (cL L [[x]]) []=sO ((O++[x]).reverse.map cd):=by
   rw[VJ,Kn];refine VR hk ?_
   show jli o
   ·rfl
   ·apply kst xi5 _=_;rw[Yg];rfl
  refine#[pS bs ws later size (op-1) t k c,[Q0 cH,À (kU [[x]]),À zJi],Ϭ,#[_,_,_,_,_,_,_,rfl,rfl,?_,d,?_,?_,?_,?_,w,zY6,Ð,qv8,Zg q qqh]]
  ·simp[-Qbi,g,J,I,Q,Y,B,QR]
  ·show Zg hL (.blk (by rcases o with rfl|rfl<;>simp))
  ·show Zg D (by rcases o with z|z<;>simp[z])
  ·simp[A]
  ·simp;show e
  ·rw[KI qqh];show v
 ·by_cases h2:c<6/\0<O.length
  ·let#[r,x,rfl]:=Qmh O (by intro z;show iV z h2);rw[Kn]at hk
   let S:∃E C,((BE/\E=L++[orL]/\C=r++RF)\/(zb2/\E=L++[QlX]/\C=r))/\Zc [Tn,.ref 2] [Q0 cH,À vB,À ((r++[x]).map .str)]=sO (.non,jn9):=by
    by_cases o:BE
    ·show Ϗ o #[_,_,ß xJ,Qi6 (L:=L) (O:=r) (i:=1) (j:=2) jjd Ñ rfl rfl]
    show Ħ #[_,_,ô (zhe o),QjE (L:=L) (O:=r) (x:=x) (i:=1) (j:=2) o jjd Ñ rfl rfl]
   let#[E,C,hc,S]:=S;refine#[zIb t,jn9,Ϭ,#[_,E,C,_,_,_,_,rfl,rfl,?_]]
   ·let ab:c<6/\0<r.length+1:=#[h2.1,xn2]
    let F:=U cH;simp only[NU,Nw,Dg]at S F;simp[-Qbi,g,J,I,F,h2.1,S]
   ·rcases hc with⟨rfl,rfl,rfl⟩|⟨o,rfl,rfl⟩
    ·let d:Yh (cL L [orL]) []=sO qk8:=by
      rw[VJ,Kn];show VR hk rfl
     show#[Zg hL QfR,d,xi6 D,AJ A,by show(Tp e,Nt e),qpf,w,ø p,u,qv9,qC7]
    ·let d:Yh (cL L [QlX]) []=vm C:=by
      rw[VJ];refine VR hk ?_;show jJg D o
     show#[Zg hL Qa6,d,λy hy=>D y (NR _ hy),AJ A,by show(Tp e,Nt (vE e)),qpf,w,ja5 p,u,qv9,qC7]
  ·by_cases h3:xs3/\qR4
   ·let q1:jn<later.length:=Ð
    let q2:(later.length:Int)<1000000:=Ð
    let#[b0,b1]:=Y8 (f:=tf f 14) (m:=later.length) q1;let#[x,o,Q]:=QdY b0 b1
    let d:Yh (cL L [qO4]) []=vm O:=by
     rw[VJ];show VR hk (by apply kst (cd "do") _=_;rw[show cd "do"=.ot by decide];rfl)
    refine#[zIb (t-1),[Q0 (tf cH later.length),À (kU [qO4]),yk O],Ϭ,#[_,_,_,_,_,_,_,rfl,rfl,?_,d,D,?_,?_,?_,Ð,p,u,qv8,Zg q (by apply((_:Str)==_)=false;decide)]]
    ·simp[-Qbi,g,J,I,U,h2,t3,h3,B,QR,Xc q1 q2,Q]
    ·show Zg hL (.do o)
    ·simp[A]
    show jc1 e
    ·rw[UO,if_pos (by apply(_==_)=true;decide)];lia
   ·let#[l,f',M,ep]:=Qhh cH bs ws hb Z hw X
    let d:qo6=vm O:=by
     rw[VJ];show VR hk (by rw[QgS M];rfl)
    refine#[zIb t,[Q0 f',À (kU [l]),yk O],Ϭ,#[_,_,_,_,_,_,_,rfl,rfl,?_,d,D,?_,?_,?_,w,p,u,XU s d xV,Zg q (Qim M)]]
    ·simp[-Qbi,g,J,I,U,h2,t3,h3,B,ep]
    ·show Zg hL (.plain M)
    ·simp[A]
    show jc1 e
    ·rw[KI (Qhb M)];show v
abbrev wt(O:Á):Nat:=(O.map λ(x:Str)=>if BE then 2 else 1).sum
abbrev Qrv:jhj
 |x::_=>x=="pair"
 |[]=>false
abbrev pcn(ls:Ġ):Nat:=ls.countP Qrv
def QhI(L:Ġ)(l:Ln):pcn sG=pcn L+(if Qrv l=true then 1 else 0):=by simp[pcn,Ybf,O1]
def Qen(h:Qrv l=false):pcn sG=pcn L:=by rw[QhI,h];rfl
def Uh(O:Á)(x:Str):wt (O++[x])=wt O+(if BE then 2 else 1):=by simp[wt]
def Qrx(O:Á):wt O<=2*O.length:=by
 induction O with
 |nil=>simp[wt]
 |cons x O a=>simp only[wt,Nw,FO,NP]at a ⊢;split<;>lia
def QoH(O:Á)(h:O≠[]):0<wt O:=by
 let#[r,x,rfl]:=Qmh O h;rw[Uh];split<;>lia
def QdE(g:Ġ->Á->MH)(bound:Nat)(m:i≠j)(M:bound<=90000)
  (H:∀L O,(g L O)[i]?=Aj vB) (F:∀L O,(g L O)[j]?=sO (qG O)) (gs:∀L O b q,((g L O).set i (Ë (b.map QR))).set j (qG q)=g b q)
  (C:∀L O,t σ Mo=sO (decide (0<O.length),g L O)) (E:∀L O w h,Zc [Ä i,Ä j] Mo=yo->body σ Mo=Mw)
  (L:Ġ) (O:Á) (hL:∀l∈L,qZ l) (hk:za5 L=vm O) (N:∀x∈O,zs9) (J:L.length+wt O<=bound) (B:Dp D L) (z:zS0<=D) (A:∀l∈L,vU) :
  ∃b,(zx2 b)/\Bal (b.map cdL)/\b.length<=bound/\((xb8 b)/\Dp D b/\∀l∈b,vU)/\Qo t body 1000000 σ Mo=sO (ì σ (g b [])):=by
 let key:=QdH (t:=t) (body:=body) (λn c h=>c=σ/\∃L1 O,((xb8 L1)/\Dp D L1/\zS0<=D/\∀l∈L1,vU)/\h=g L1 O/\n=wt O/\(zx2 L1)/\za5 L1=vm O/\jo0/\L1.length+wt O<=bound) (wt O) 1000000 σ Mo Í #[rfl,L,O,#[ζ,B,z,A],rfl,rfl,hL,hk,N,J] ?_
 ·let#[c,P,e,rfl,b,q,a,rfl,hw,v,p,u,o]:=key
  let:q=[]:=by
   cases q with
   |nil=>rfl
   |cons x r=>let:=QoH vP Å;lia
  show yY #[b,v,bal_iff.mpr p,SK Ů o,#[a.1,a.2.1,a.2.2.2],e]
 ·rintro n c h ⟨rfl,L1,O,a,rfl,rfl,v,p,u,o⟩
  by_cases f:O=[]
  ·subst f;show đ #[SC C,rfl]
  ·show AT #[by rw[C,decide_eq_true (DD.mpr f)],?_];let#[r,x,rfl]:=Qmh O f;rw[Kn]at p;rw[Uh]at o ⊢
   by_cases s:BE
   ·subst s;rw[Ĥ]at o ⊢
    let d:Yh (cL L1 [orL]) []=sO qk8:=by
     rw[VJ,Kn];show VR p rfl
    refine#[wt (r++RF),c,g (L1++[orL]) (r++RF),?_,Ϭ,rfl,_,_,#[jN9,XU a.2.1 d (by let:=ϳ a;show(zh5,this)),xn5 a,qva],rfl,rfl,Zg v QfR,d,xi6 u,?_]
    ·show(qJj,NW Ñ _)
    ·refine xef;rw[Qi6 (L:=L1) (O:=r) Í m (H _ _) (F _ _),gs]
    ·show qJj;simp;lia
   ·rw[Õ s]at o ⊢
    let d:Yh (cL L1 [QlX]) []=vm r:=by
     rw[VJ];refine VR p ?_;show jJg u s
    refine#[wt r,c,g (L1++[QlX]) r,by show N6 _,Ϭ,rfl,_,_,#[jN9,XU a.2.1 d (by let:=ϳ a;show zh5;lia),by let:=ϳ a;show Ϯ;lia,qva],rfl,rfl,Zg v Qa6,d,λy I=>u y (Tt I),?_]
    ·refine xef;rw[QjE (L:=L1) (O:=r) s Í m (H _ _) (F _ _),gs]
    ·simp;lia
def Qfl(f:Fd)(size:Nat)(bs ws later:Á)(op:Nat)(A:Int)(r:A=op)(c:Int)(M:op<=10)(v:0<=c)(J:size<=100)(Y:dC)(y:df)(hw:dD)(p:jS)(u:xed) :
  ∃(ls:Ġ) (f':Fd),Bal γ/\(∀l∈ls,qZ l)/\ls.length<=size+2*op/\((zl5:Int)<=c/\Dp op ls/\(∀l∈ls,vU)/\pcn ls<=size)/\∀(h:MH) (n:Nat),CB->Xf [Ä n,.int size,Î xn4,Z4 later,Â A,Â c] h=sO (Î Au,Pr f'):=by
 subst r
 let d:=Q9 (items:=QA 0 size) (b:=QM 8) (body:=Jr) (PI bs ws later size c op) (QA 0 size) 0 jm5 zsi
  #[f,[],[],op,c,nO,nO,rfl,rfl,Ç,rfl,Ç,rfl,NA _,by simp[dcn],v,Ç,Ð,QpG Í,Ç] (λj w S E h H=>QfH Y y hw p u (by let:=à S;rw[Zn]at this;lia) H)
 show Γ D h' e1 H d;let#[f1,L,O,m,z,I,F,rfl,rfl,hL,hk,Z,B,q,U,X,P,N,x,s]:=H.ex;rw[Zn,NO]at B q
 let cl:=QdE (bs:=bs) (ws:=ws) (later:=later) (i:=1) (j:=2) (t:=Qg (yp (ş (É š)))) (body:=XM) (σ:=[sO ç,bO,Co,tz,Ĝ m,Ĝ z,Ν,cg,I,F])
  (λL O=>[Q0 f1,À vB,yk O]) (size+2*op) Ñ Í ck ck (λ_ _ _ _=>rfl) (λL O=>Ç) (λL O w h e=>AJ e) L O hL hk Z (by let:=Qrx O;lia) x Í s
 let#[C,h1,h2,h3,a,e2]:=cl;refine#[C,f1,h2,h1,h3,#[by rw[a.1.1];lia,a.2.1,a.2.2,by rw[a.1.2];show Nh List.countP_le_length (Nv B)],Ú h n Q];refine V5 (o:=Q0 f) (g:=[À (C.map QR),ő]) Å Q wN ?_ Å pP;let er:YT AW jm5 zsi=sO (QA 0 size,nO,zsi):=VC Å (ź J);simp -implicitDefEqProofs [VT,QD,Jd,er,e1,e2]
noncomputable abbrev QkA(i:Nat):Nat:=if i=0 then 23 else 1
abbrev TwA(p:È):Prop:=(∀x,zeb->ċ<=12/\sN<=2/\Dp 2 x.2/\pcn x.2<=8)/\∀i x,p[i+1]?=sO x->ċ<=5/\sN<=1/\Dp 1 x.2/\pcn x.2<=3
def TwA.snoc{p:È}{nm:Str}{ls:Ġ}(h:TwA p)(d:p≠[])(c:ls.length<=5/\zl5<=1/\Dp 1 ls/\pcn ls<=3):TwA xb9:=by
 let e:=DD.mpr d;refine#[λx a=>h.1 x (by rwa[NC e]at a),Ú i x a]
 by_cases b:i+1<p.length
 ·show h.2 i x (by rwa[NC b]at a)
 ·rw[Et (AM b)]at a;let:i+1-p.length=0:=by let:=à a;show Av
  rw[this]at a;show yj a c
structure GoodP(N:Nat)(bs ws:Á)(p:È):Prop where
 ne:p≠[]
 len:p.length<=5
 bal:∀x∈p,Bal nK
 sz:∀x∈p,ċ<=N
 ok:∀(i:Nat) (x:Pt),jU->∀l∈x.2,LineOk bs ws ((p.map (·.1)).drop (i+1)) l
 nd:(p.map (·.1)).Nodup
 dos:jxg
def Qhz(xs:ä a)(k:Nat):Wz xs (sO ğ) nO=xs.drop k:=by
 unfold Wz;rw[HT.sIx_nat,HT.sIx_none]
 by_cases h:k<=xs.length
 ·rw[Yad h,Lq Å]
 ·rw[Ybz xad,DF ĕ,DF xad];simp
def Qjn{k:Nat}(hk:i=k):wSl (Z4 ns) (sO i) nO h=sO (Z4 (ns.drop k),h):=by
 subst hk;unfold Z4;simp[Qhz,List.map_drop]
@[simp]def QtJ:wSl (Z4 ns) (sO 1) nO h=sO (Z4 (ns.drop 1),h):=Qjn (k:=1) rfl
def QiZ{i:Int}(h:0<=i):xs0:=qb0
def Qgy(e:zj9=sO ([.int 1,Â j],h'))(a:j<100000000):xB0=sO (QA 1 (j-1),nO,h'):=by
 unfold Qf8;rw[e,Nj];refine zm7 #[oY,oY,Ð,Ð];rw[show(BT-1).toNat=j-1 by lia]
structure PP(N:Nat)(bs ws names:Á)(k:Nat)(p:È):Prop where
 nm:p.map (·.1)=names.take k
 bal:∀x∈p,Bal nK
 sz:∀x∈p,ċ<=N
 ok:∀(i:Nat) (x:Pt),jU->∀l∈x.2,LineOk bs ws (names.drop (i+1)) l
 dos:jxg
def PP.snoc{nm:Str}(H:PP N bs ws a k p)(hk:a[k]?=sO nm)(h:Bal γ)(f:ls.length<=N)(g:∀l∈ls,LineOk bs ws (a.drop (k+1)) l)(hd:zl5<=QkA k):PP N bs ws a (k+1) xb9:=by
 let d:=xu4;let c:p.length=k:=jLa
 refine#[?_,Zg H.bal h,Zg H.sz f,Ú i x b,Ú i x b]
 ·rw[NU,H.nm,Lz d];rw[Nl d]at hk;cases hk;rfl
 ·show lZ e i p
  ·rw[NC e]at b;show H.ok i x b
  ·let:i=p.length:=by let:=à b;show Ϯ;lia
   subst this;show(j6 b,ώ c g)
 ·show lZ e i p
  ·rw[NC e]at b;show H.dos i x b
  ·let:i=p.length:=by let:=à b;show Ϯ;omega
   subst this;show j6 b;rw[c];show hd
def PP.good(H:PP N bs ws a a.length p)(e:a≠[])(f:a.length<=5)(d:a.Nodup):Ğ:=by
 let b:p.map (·.1)=a:=by rw[H.nm,Ef]
 let c:p.length=a.length:=by rw[<-b];simp
 refine#[ϴ e (by rw[<-b,z];rfl),SK (Nv c) f,H.bal,H.sz,?_,uq b d,H.dos];rw[b];show H.ok
def QbZ(f:Fd)(t s r d:Nat)(h0:1<=t/\t<=5)(h1:1<=s/\s<=5)(h2:1<=r/\r<=5)(h3:3<=d/\d<=8) :
  ∃(bs ws:Á) (p:È) (L:Fd),(dC/\df)/\(dD/\jS)/\(u9/\TwA p/\p.length<=r)/\∀(h:MH) (n:Nat),CB->Vb [Ä n,À jD9] h=sO (Qw p,Pr L):=by
 show zqg q0 t S
 show zqg q1 s Q
 show zqg q2 r P
 let#[a0,a1]:=Y8 (f:=f) q0;let#[n0,e0]:=QiZ a0;let#[bs,f1,lb,ah,eb]:=UP (tf f t) (1+n0) Í;let#[c0,c1]:=Y8 (f:=f1) q1;let#[n1,e1]:=QiZ c0;let#[ws,f2,lw,af,ew]:=UP (tf f1 s) (1+n1) Í;let#[d0,d1]:=Y8 (f:=f2) q2;let#[n2,e2]:=QiZ d0;let#[a,q,F,Y,en]:=UP (tf f2 r) (1+n2) Í;let#[g0,g1]:=Y8 (f:=q) (m:=3) Ñ;let D:dC/\df:=Ð
 let hw:dD/\jS:=Ð
 obtain⟨c,f4,hs,es⟩:∃(c:Nat) (f4:Fd),c<=8/\(if qK0 then ũ (λp=>MF.nx [sO ç,HU,Co,cQ,sO p.fst,nO,nO] p.snd) (Qk [Ţ,Â (d-pc+1)] [Q0 zL6])
   else sO (MF.nx [sO ç,HU,Co,cQ,sO (Ĕ (d-pc)),nO,nO] [Q0 zL6]))=sO (ì [sO ç,HU,Co,cQ,Ĝ c,nO,nO] [Q0 f4]):=by
  by_cases z:qK0
  ·let E:jn<d-pc+1:=Ð
   let N:(d:Int)-pc+1<1000000:=Ð
   let#[k0,k1]:=Y8 (f:=qO6) E;let#[sz,ez]:=QiZ k0;show#[sz,tf zL6 (d-pc+1),Ð,by simp[z,Xc E N,ez]]
  ·let#[sz,ez]:=QiZ (i:=d-pc) Í;show#[sz,qO6,Ð,by simp[z,ez]]
 let#[u,J,p1,p2,p3,y,ep]:=Qfl f4 c bs ws (a.drop 1) 2 2 rfl 2 Ñ Ñ (Nt (Ni hs Ñ)) D.1 D.2 hw.1 hw.2 u8;obtain⟨e,C⟩:∃x,a[0]?=sO x:=#[a[0]' jxb,Nl jxb]
 let A:=Q9 (items:=qz8) (b:=QM 6) (body:=Vx) (λn σ h=>∃(f:Fd) (p:È) (U:Û),σ=[sO ç,HU,Co,cQ,Ĝ c,Ν,U]/\h=[Q0 f,À C0]/\PP 300 bs ws a (n+1) p/\TwA p/\∀x∈p,∀l∈x.2,vU)
  (QA 1 qsg) 0 jme zri
  #[J,[(e,u)],nO,rfl,rfl,PP.snoc (p:=[]) #[rfl,Ç,Ç,Ç,Ç] C p1 Í p2 (by apply _<=23;let:=y.1;lia),#[λx I=>by show yj I #[by apply u.length<=12;lia,by apply dcn u<=2;let:=y.1;lia,y.2.1,by apply pcn u<=8;let:=y.2.2.2;lia],λi x I=>AF I],xn5 y] (by
   rintro j w hj σ h ⟨f,p,U,rfl,rfl,H,H0,H1⟩
   let Z:=xu5;rw[Zn]at Z;obtain rfl:w=Â zo9:=by rw[(Ke hj).2,Int.add_comm]
   refine eO;let#[t0,t1]:=Y8 (f:=f) (m:=4) Ñ;let#[m,em]:=QiZ t0;let#[ls,L,E,N,r3,v,M]:=Qfl (tf f 4) m bs ws qO5 1 1 rfl 1 Ñ Ñ Í D.1 D.2 hw.1 hw.2 u8;obtain⟨nm,B⟩:∃x,a[j+1]?=sO x:=#[a[j+1]' Í,Nl ĥ]
   refine#[[sO ç,HU,Co,cQ,Ĝ c,Ν,sO (Ĕ zo9)],[Q0 L,À ((p++[(nm,ls)]).map J2)],Ϭ,L,_,_,rfl,rfl,?_]
   ·let ea:atI zo7 zo9=sO zT4:=by rw[show BT+1=((j+1:Nat):Int) by show rfl,QJ,Np,B];rfl
    let aa:∀h,wSl (Z4 a) (sO (BT+1+1)) nO h=sO (Z4 qO5,h):=λh=>Qjn rfl;let X:p.length<sizeLine:=by show(zze,Qb7 Í)
    simp[ea,aa,em,M,X,J2]
   ·rw[NO]at H ⊢
    show#[H.snoc B E Í N (by rw[QkA,if_neg (EB jkb)];let:=v.1;lia),H0.snoc (by intro z;rw[z]at H;show zze;lia) #[Ð,by let:=v.1;lia,v.2.1,by let:=v.2.2.2;lia],Zg H1 (ϳ v)])
 let#[ae,h',el,f6,p,U,rfl,rfl,H,H0,H1]:=A;rw[Zn,NO,show jb2+1=a.length by lia]at H;refine#[bs,ws,p,f6,D,hw,#[H.good (by intro z;show iV z F;lia) Í Y.1,H0,jLa],zW2];refine V5 (o:=Q0 f) (g:=[À C0]) Å hn wN ?_ Å pP;let M:Qf8 (Qa Ć (ľ (ş (ê æ)))) jme zri=sO (qz8,nO,zri):=Qgy Å Í;let ea:atI zo7 0=Ϸ e:=by rw[Qvb,Np,C];rfl
 push_cast at eb ew en;rw[List.drop_one]at ep;let ab:qO7=Î [Ü e,.tup (u.map QR)]:=rfl;rw[ab]at M el;simp -implicitDefEqProofs [JF,QD,Jd,Xc q0 S,Xc q1 Q,Xc q2 P,e0,e1,e2,eb,ew,en,es,ea,ep,M,el,Qw]
def Jz(h:LineOk bs ws a l):ca:=by
 cases h with
 |plain h=>cases h<;>show Aw
 |«do» h=>show Aw
 |blk h=>show Aw
 |back h=>show Aw
def Qfs(h:Ğ)(b:N<=M):GoodP M bs ws p:=#[h.ne,h.len,h.bal,λx a=>Nh (h.sz x a) b,h.ok,h.nd,h.dos]
def QeC(ns:ψ)(k:Nat)(hk:k<100):∃f:Fd,∀h:MH,qfi=sO (ģ,h++[Q0 f]):=by
 let fin:∀(a b:Int) (g:qLa),Z5 zv2 []=sO (Ţ,[À [Â a,Â b]])->∀h:MH,qfi=sO (ģ,h++[xe9 g]):=by
  intro a b g e h;unfold Zz box;let i:Xv 0 zv2=sO (zv2,[]):=by simp[Xv]
  rw[i,Nj];show(fG,m8);simp[frR,th,res,Vf,ZM,thO,ths,QH,Q0]
 obtain⟨c,d⟩:∃c:Int,(if ğ<xfg then ũ (λp=>MF.nx [sO PY,Ĝ k,sO p.fst,nO] p.snd) (@om _ _ (λw=>(w,([]:MH))) (atI (zC7 W) ğ))else sO (MF.nx [sO PY,Ĝ k,sO zj,nO] []))=sO (MF.nx [sO PY,Ĝ k,Ĝ c,nO] []):=by
  by_cases j:k<ns.length
  ·refine#[ns[k],?_];rw[if_pos ĥ,QJ,Np,Nl j];simp
  show Ħ #[0,by rw[if_neg ĥ]]
 let m:0<=nG:=zJh;let l:nG<2147483647:=qKi
 by_cases hd:(1000000000000000000:Int)<=c
 ·refine#[#[c-1000000000000000000,nG+k,Ė],xu7];show xn6
 ·refine#[#[0,nG+k,Ė],xu7];show xn6
abbrev rW:jT->W
 |è t=>Ä (t+2)
 |none=>.non
abbrev tO(x:zoa):MO:=À zDh
abbrev hB(b:Bk)(n:Nat):MH:=À (xu8++List.replicate n .non)::À qk9::xu9
def QfA(h:pil ls (k+1)=sO p):∃q c,zi3=sO q/\MC/\stp k c q=sO p:=by
 show ē q d a h;cases b:uI with
 |none=>show ð b a
 |some c=>rw[b]at a;show#[q,c,d,rfl,a]
def Qmw:∀{n:Nat} {p:jq},pil ls n=sO p->∀k,k<=n->∃q,zi3=sO q:=by
 intro n
 induction n with
 |zero=>
  intro p h k hk;show#[p,by rw[Nat.le_zero.mp hk];show h]
 |succ n a=>
  intro p h k hk
  by_cases z:k=n+1
  ·show ώ z #[p,h]
  ·let#[q,c,b,_]:=QfA h;show a b k Í
def Qnw(ls:ō):∀k,(∀t∈(bks ls k).st,qHh)/\∀t,sO t∈(bks ls k).rws->qHh:=by
 intro k
 induction k with
 |zero=>
  show#[zW3,zW3]
 | succ k l=>
  show ĉ e h l;simp only[bks];split
  ·rename_i c m;generalize bks ls k=b at e h;let#[g,st,i]:=b
   let hd:∀t,st.head?=sO t->t<g.length:=by
    intro t d;cases st with
    |nil=>simp at d
    |cons a r=>
     show(j6 d,e _ NF)
   let j:∀f,(My4.top #[g,st,i] f).length=g.length:=λf=>by unfold My4.top;cases st<;>simp
   cases c<;>simp only[bst]
   ·show jo1
    ·show jtj
   ·show jo1
    ·show jtj
   ·rw[j];show jmb
   ·rw[j];refine#[λt d=>e t (List.mem_of_mem_tail d),Ó t d];simp at d
    show jo7
   ·show jmb
  show Ħ #[e,h]
def QjU(h:a.length=k):(a++x::b).set k y=a++y::b:=by subst h;simp
def QfT{l:jG}(h:l[t]?=sO x):(l.map tO).set t (tO (f x))=(l.modify t f).map tO:=by
 refine' E8;intro i;rw[FW,Np,Np,L4];let a:=à h
 show Ě z t i
 ·subst z;rw[h];simp[a]
 ·simp[z]
noncomputable abbrev bS(ls:Ġ)(k:Û):MSt:=[we,sO ç,Ν,k]
def Jj{x:Str}:(BE/\cd x=.ei)\/(vN/\cd x=.ag)\/(Ho/\cd x=.oo)\/(lu/\cd x=.en)\/((zb2/\x≠"again"/\x≠"or"/\x≠"end")/\cd x=.ot):=by
 unfold cd
 by_cases d:BE
 ·show đ #[d,Ò d]
 rw[Õ d]
 by_cases c:vN
 ·show ÿ (ϵ #[c,Ò c])
 rw[Õ c]
 by_cases b:Ho
 ·show ÿ (ü (ϵ #[b,Ò b]))
 rw[Õ b]
 by_cases a:lu
 ·show ÿ (ü (Tu (ϵ #[a,Ò a])))
 rw[Õ a];show ÿ (ü (Tu (.inr #[#[d,c,b,a],rfl])))
def Qay{b:Bk}{p P:jq}(X:uI=sO l)(U:l=x::r)(hk:k<=5000)(A:b.st.length<=5000)(B:BI γ k b p)(w:stp k ji0 p=sO P) :
  JI zEj (hB b (n+1))=sO (ì zEj (hB (bst k ji0 b) n)):=by
 subst U;let M:atI Au ğ=sO zYc:=c4 X
 let Y:jx9:=rfl;rw[Y]at M;let c:∀h,Qe wIx zqb Θ zEj h=sO zw6:=λh=>AJ M
 let#[j,st,d]:=b;let o:(d.map rW).length=k:=by simp;show B.len
 let C:d.length=k:=B.len;let e:ixN (d.length+(n+1)) ğ=sO k:=QjT Í;let u:∀v,(d.map rW++List.replicate (n+1) W.non).set k v=d.map rW++v::List.replicate n W.non:=λv=>by rw[Ya1,QjU o]
 let F:qUa:=Qb7 (ja (show st.length<=5000 from A));let D:cdL vP=cd x:=rfl;rw[D]at w ⊢
 show qn1 s L J I H
 all_goals rw[s]at w ⊢
 show qU9
 show qU9
 ·cases p with
  |nil=>cases w
  | cons a N=>
   let i:=B.op;cases i with
   |@cons t _ m _ y S Q q=>
    show(jPe,QfT (f:=qU6) g)
 ·cases p with
  |nil=>cases w
  | cons a N=>
   let i:=B.op;cases i with
   |@cons t _ m _ y S Q q=>
    show(jPe,QfT (f:=ja4 k) g)
 ·cases st with
  |nil=>
   simp[hB,bst,c,L,J,I,H,rW];rw[Ya1]
  |cons t m=>simp[hB,bst,c,L,J,I,H,e,u,rW]
abbrev rv(b:Bk):jT->W
 |è t=>match BQ with
  |è x=>À zDh
  |none=>.non
 |none=>.non
abbrev Qc4(b:Bk):W:=À zJ3
def QpA:pln (rv b o)=true:=by
 cases o with
 |none=>rfl
 |some t=>
  simp only[rv];split<;>rfl
@[simp]def QrG:pln (Qc4 b)=true:=by show Vi λ_=>QpA
def QhX(l:g=A::B::xu9)(c:zW4):∀(os:ϓ),(∀t,sO t∈os->t<b.trs.length)->ths xi7 (os.map rW)=sO (os.map xba):=by
 intro os
 induction os with
 |nil=>
  show sf
 | cons o os f=>
  show zvf f t i;cases o with
  |none=>rfl
  | some t=>
   let a:=y0 t;let e:BQ=sO b.trs[t]:=Nl a
   let d:g[t+2]?=sO (Ë [.int b.trs[t].1,.int b.trs[t].2.1,.int b.trs[t].2.2]):=by
    rw[l];simp only[DU,Np,e];rfl
   let:th xi7 (rW rF)=sO (rv b rF):=by
    simp only[rW,th,res,c,d,rv,e];rfl
   show Ο
def Qrn(ls:ō):∀k,(bks ls k).st.length<=k:=by
 intro k
 induction k with
 |zero=>
  show NA _
 |succ k b=>
  let a:=b;simp only[bks];split
  ·rename_i c d;cases c<;>simp[bst]<;>omega
  show jc1 a
def Qd3(ls:Ġ)(X:Bal γ)(z:∀l∈ls,ca)(o:xeg)(h:MH):Zp zob h=sO (Qc4 (bks γ ls.length),h):=by
 let C:pil γ ls.length=sO []:=by let:=X;unfold Bal at this;show lm
 let f:=Q9 (items:=xi8) (b:=QM 3) (body:=JI) (λn s h=>∃u,s=bS ls u/\h=hB (qO8 n) (ls.length-n)/\n<=ls.length) (QA 0 ls.length) 0 xua qm9 #[nO,rfl,zW3,NQ _] (by
  rintro j w U s h ⟨u,rfl,rfl,E⟩
  let#[d,rfl]:=Ke U;rw[NO]at *;obtain⟨l,a⟩:∃l,AL=sO l:=#[ls[j],Nl d]
  let#[x,r,N]:=z l (A8 j a);let#[p1,y]:=Qmw C (j+1) d;let#[p,c,S,F,P]:=QfA y;let i:(ls.map cdL)[j]?=sO ji0:=Sn a
  show ð i F;let#[_,B]:=Qbf S;let v:(bks γ j).st.length<=5000:=Nh (Qrn _ j) (Nh E o);refine#[bS ls (sO (Ĕ (jn+j))),rfl,bS ls fC,hB (qO8 (j+1)) (ls.length-(j+1)),Ϭ,_,rfl,rfl,by show d];let e:=Qay (n:=qR5) a N (Nh E o) v B P;rw[show qR5+1=ls.length-j by lia]at e;rw[II];simp only[bks,i]
  show e)
 let#[L,h',q,u,rfl,rfl,_]:=f;rw[Zn,NO,Nat.sub_self]at q;generalize D:bks γ ls.length=b at q ⊢;let I:=ZS (fin:=Qo2) (mi:=Qm Ù) (cp:=[nO]) (me:=mC .non) (σ:=[we,nO,nO,nO]) (caps:=[]) (h:=[]) (items:=jf3) (λ_=>W.non) rfl û (λw hw=>rfl) (Sq (zh o));rw[List.map_const',Nq]at I;let H:YT jr5 xua qm9=sO (xi8,nO,hB zKg ls.length):=VC Å (ź o)
 let:=XY (m:=Zy) (args:=zob) (as:=zob) (ns:=[]) (os:=[]) (os':=[]) (g:=hB b 0) (h:=h) (w:=Ţ) (w':=Qc4 b) (by simp[Xv]) Å rfl (by
  simp[hB]at H q;simp -implicitDefEqProofs [Zy,QD,Jd,I,Qo2,H,q,hB]) rfl Å (by
  let hk:qB6:=xbb
  let Q:=QhX (b:=b) (kp:=Vf [] [] h.length) (g:=hB b 0) (A:=À (xu8++List.replicate 0 .non)) (B:=À qk9) rfl hk b.rws (by rw[<-D];show(Qnw _ _).2);apply th (zzc (hB b 0)) ç=_;let Y:(hB b 0)[0]?=sO (Ë (b.rws.map rW)):=by simp[hB]
  show SS;simp only[hk 0,Y,Q]
  rfl)
 apply box frN Zy _ _=_;show Av
def Qaf(P:xC)(v:W)(d:MH):∀(r:Ã) (n m:Nat) (σ:MSt) (h:MH),Ba n->m<r.length ->
  (∀(j:Nat) (w:W),j<m->jtf) ->
  (∀w,r[m]?=sO w->∀σ h,Ba (n+m)->∃σ1,xn/\xB=AG d)->fk r=AG d
 |[],n,m,σ,h,_,e,_,_=>AF e
 |w::r,n,0,σ,h,a,_,_,f=>by
  let#[σ1,i,g]:=f w rfl σ h a;rw[Zt,BC,i,Nj,g];rfl
 | w::r,n,m+1,σ,h,a,e,l,f=>by
  let#[σ1,i,σ2,h2,g,o]:=l 0 w jkb rfl σ h a;rw[Zt,BC,i,Nj,g]
  show Qaf (items:=items) (b:=b) (body:=body) P v d r (n+1) m σ2 h2 o zn8 (λj x p c σ h a=>by
   let:=l (j+1) x (DB p _) wZ σ h (mG j a);show mj) (λx c σ h a=>f x wZ σ h (mG m a))
@[simp]def QqY:J6 [QR vP] h=sO (Â (ch sI),h):=by
 show TU;let b:jx9:=rfl
 show qn1 a e d f c
 show zab
 show zab
 show zab
 show zab
 ·simp[QT,QD,b,e,d,c,a,ch]
@[simp]def Qt0:zlb zYc h=sO zw6:=qXb
@[simp]def Qu6:jib (QR (x::y::r))=sO (Ü y,h):=qXb
def Qdn(e:zj9=sO (qk,h'))(hi:-1000000<=i/\i<=1000000)(a:-1000000<=j/\jaf):xB0=sO (QA i zXf,nO,h'):=by
 unfold Qf8;rw[e,Nj];show if_pos #[Ð,Ė,Ð,Ė]
noncomputable abbrev fS(ls:Ġ)(k:Nat)(y:Str)(a j:Û):MSt:=[we,Ĝ k,Ϸ y,a,j]
def U2{ls:Ġ}{j:Nat}(h:AL=sO l):atI Au BT=sO zYb:=c4 h
def GE{ls:Ġ}{k j:Nat}(v:∀l∈ls,ca)(Q:xeg)(J:∀x:Str,cd x=cd y↔x=y)(B:Beh γ k (cd y) j):ZD [Î Au,Â k,Ü y] h=sO (Â j,h):=by
 show TU;let D:j<ls.length:=by let:=qz9 B;show Av
 let C:=B.lt
 let N:∀d,Qf8 (Qa (Ψ Ö) (É (ş (ê Ù)))) (fS ls k y zje d) []=sO (QA (ğ+1) zKh,nO,[]):=by
  intro d;rw[Qdn (h':=[]) (i:=ğ+1) (j:=ls.length) Å Í Í,show((ls.length:Int)-(ğ+1)).toNat=ls.length-(k+1) by lia]
 let lines:∀i,k<i->i<=j->qf8:=λi _ H=>by
  let m:xAi:=by show Ni H D
  let#[x,r,e]:=v ls[i] (Dw m);let I:zM4:=by rw[Nl m,e]
  show#[x,r,I,Sn I]
 let f:=Qaf (items:=QA (ğ+1) zKh) (b:=QM 4) (body:=Vv) (λn s h=>∃d,s=fS ls k y (sO (Ĕ (PF (k+1+n) (k+1)))) d/\h=[]) (Ĕ j) [] (QA (ğ+1) zKh) 0 qK1 (fS ls k y zje nO) [] #[nO,Ç,rfl] (by rw[Zn];omega) (by
  rintro i w H hw s h ⟨d,rfl,rfl⟩
  show xB1;let#[x,r,t,q]:=lines zf9 (vE B9) ĥ;let E:=U2 t;let M:=JT q;rw[NO];let p:atI Au (ğ+1+jd)=sO zYc:=by rw[show(ğ+1+jd)=((k+1+i:Nat):Int) by show rfl];show E
  refine#[fS ls k y (sO (Ĕ (PF zf9 (k+1)))) (sO (Ĕ (ğ+1+i))),rfl,fS ls k y (sO (Ĕ (PF qX4 (k+1)))) (sO (Ĕ (ğ+1+i))),[],?_,_,rfl,rfl]
  let c:lev γ qX4-lev γ (k+1)=qdb+ch sI:=by
   rw[show k+1+(i+1)=k+1+i+1 by show rfl,M];lia
  rw[c];generalize hL:qdb=L
  by_cases F:L=0
  ·let u:=B.no zf9 (vE B9) ĥ Í;let a:x≠y:=ϴ u (by rw[q,z]);subst F;simp[a,p]
  ·simp[F,p]) (by
  rintro w hw s h ⟨d,rfl,rfl⟩
  show xB1;let#[x,r,t,q]:=lines j C ĕ;let o:=B.at_;rw[q]at o;let a:x=y:=(J x).mp (ĝ o);subst a;let P:ğ+1+((j-(k+1):Nat):Int)=BT:=Ė
  let E:=U2 t;rw[P]
  let A:lev γ (k+1+qHi)-lev γ (k+1)=0:=by
   rw[show k+1+qHi=j by lia,B.lv];lia
  show ώ A #[_,rfl,AJ E])
 simp -implicitDefEqProofs [JG,QD,Jd,N,f]
def KS{lo c:Int}(h:(JA lo c n)[j]?=sO w):j<n/\w=Â (lo+BT*c):=by
 let a:=à h;simp[JA]at a;show Hz a;unfold JA at h;rw[Np,EZ a]at h;cases h;rfl
noncomputable abbrev hS(ls:Ġ)(k:Nat)(a j:Û):MSt:=[we,Ĝ k,a,j]
def QkV{ls:Ġ}{k j:Nat}(s:∀l∈ls,ca)(F:zSf)(hk:xu3)(B:Ahd γ k j):Xs [Î Au,Â k] h=sO (Â j,h):=by
 show TU;let v:=B.lt;let H:∀c,Qgt (Qa (xf Ö) (Qa Am (É Am))) (hS ls k zje c) []=sO (zF3,nO,[]):=λc=>Qtj rfl rfl rfl (ź (Nh hk F))
 let lines:∀i,i<k->qf8:=λi A=>by
  let f:xAi:=by show Ng A hk
  let#[x,r,e]:=s ls[i] (Dw f);let C:zM4:=by rw[Nl f,e]
  show#[x,r,C,Sn C]
 let D:(JA (ğ-1) (-1) k).length=k:=by simp[JA]
 let d:=Qaf (items:=zF3) (b:=QM 3) (body:=K5) (λn o h=>∃c,o=hS ls k (sO (Ĕ (PF k (k-n)))) c/\h=[]) (Ĕ j) [] (JA (ğ-1) (-1) k) 0 xhc (hS ls k zje nO) [] #[nO,Ç,rfl] (by rw[D];omega) (by
  rintro i w A hw o h ⟨c,rfl,rfl⟩
  show xuc (k-1-i) ĥ;let z:ğ-1+jd*-1=qWf:=Ð
  show xub;rw[NO,z];generalize I:qWf=t at m;refine#[hS ls k (sO (Ĕ (PF k (k-i)))) (sO (Ĕ t)),rfl,hS ls k (sO (Ĕ (PF k xeh))) (sO (Ĕ t)),[],?_,_,rfl,rfl]
  let a:zHa-lev γ xeh=jZf:=by
   rw[show k-i=k-1-i+1 by lia,q,qy6];lia
  let E:=B.no (k-1-i) Í Í;let u:jZf≠1:=by rw[<-a,qy6];lia
  rw[a];simp[m,u]) (by
  rintro w hw o h ⟨c,rfl,rfl⟩
  show xuc j v;let z:ğ-1+((k-1-j:Nat):Int)*-1=BT:=Ė
  show xub;rw[z]
  let a:zHa-lev γ (k-qR6)+ch sI=1:=by
   rw[show k-qR6=j+1 by lia,q];let:=B.lv;lia
  rw[NO]at a ⊢
  show#[_,rfl,by simp[m,a]])
 simp[X6,QD,Jd,H,d]
def QcF(x:Str):cd x=cd "end"↔lu:=by
 rcases zib with⟨rfl,a⟩|⟨rfl,a⟩|⟨rfl,a⟩|⟨rfl,a⟩|⟨⟨e,d,c,b⟩,a⟩<;>simp[a,Qbm, *]
def QdF(x:Str):cd x=cd "or"↔Ho:=by
 rcases zib with⟨rfl,a⟩|⟨rfl,a⟩|⟨rfl,a⟩|⟨rfl,a⟩|⟨⟨e,d,c,b⟩,a⟩<;>simp[a,Qn8, *]
def Qi0{ls:Ġ}(a:∀l∈ls,ca)(b:zSf)(B:Beh γ k .en j):Xb jPf h=oZ:=by
 show TU;let e:∀h,ZD [Î Au,Â k,.str "end"] h=oZ:=λh=>GE a jje QcF (by rw[Qbm];show B);simp[KR,QD,e]
def QrA{ls:Ġ}(a:∀l∈ls,ca)(b:zSf)(B:Beh γ k .oo j):Uo jPf h=oZ:=by
 show TU;let e:∀h,ZD [Î Au,Â k,.str "or"] h=oZ:=λh=>GE a jje QdF (by rw[Qn8];show B);simp[YZ,QD,e]
@[simp]def Qt4(hw:je)(c:pur p=true)(a:pur d=true)(e:jb9)(hk:pur k=true):JZ jI8 h=sO (Î [w,p,k,CA],h):=by
 refine jXb;simp[KU,QD]
@[simp]def Qvz(hw:je)(c:pur p=true)(a:pur d=true)(e:jb9)(hk:pur k=true):KG jI8 h=sO (Î [w,p,k,ξ],h):=by
 refine jXb;simp[X3,QD]
@[simp]def Qv0:CM jl2=ũ fI (atI C0 i):=by unfold Qw;simp
@[simp]def Qu8:jib (J2 x)=sO (Î qX,h):=jce J2
@[simp]def Que:CM (Qc4 b)=ũ fI (atI zJ3 i):=by unfold Qc4;simp
@[simp]def QuQ:zlb zk4 h=sO (Ti q,h):=qXc
@[simp]def Qum:jib zk4=sO (B5 q,h):=qXc
abbrev bk(x:Pt):Bk:=bks nK ċ
abbrev QN(p:È):W:=À zFi
@[simp]def QqT:pur AE=true:=by
 unfold QN;rw[QsP];show ZR _ (Vi λ_=>QrG)
@[simp]def Qri:CM AE=ũ fI (atI zFi i):=by unfold QN;simp
structure SV(p:È)(s:Spt):Prop where
 ex:∃x,zR0/\s.k<=ċ/\(ui->∃r,zg9=sO (("again":Str)::r))
 way:∀q∈s.way,jI9
def KJ{p:È}{i:Nat}(h:jU):atI C0 jd=zUf:=c4 h
def Qfz{p:È}{i:Nat}(h:jU):atI zFi jd=sO (Qc4 tM):=c4 h
def Qbj{b:Bk}{k t:Nat}(h:b.rws[k]?=sO rF)(a:BQ=sO x):atI zJ3 ğ=sO (Ë zDh):=by
 rw[QJ,Np,h];simp[rv,a]
def Yy{p:È}{s:Spt}(c:zR0)(d:ui\/s.k=ċ):ZY mQ h=iK h:=by
 show(TU,xE e);let b:=KJ c;simp only at b d c
 by_cases a:head=true
 ·simp[J9,QD,Qf,b,a]
 ·let hk:k=ċ:=by show(jZ d,č z a,z)
  simp[J9,QD,Qf,b,a,hk]
def GD{p:È}{s:Spt}(c:zR0)(e:zb3)(d:zg9=sO l):qC8=sO (QR l,h):=by
 show(yw,xE j);let f:=KJ c;let i:=U2 d;let hk:=à d;simp only at f e c i hk;let b:¬ğ=ċ:=Ð
 let a:¬k=ċ:=by show NK hk
 simp[J9,QD,Qf,f,e,i,b,a]
@[simp]def Qre:Kx [] h=sO (Qf zN6,h):=by
 show yw;simp[Vo,QD,Qf]
def QfB{ns:Á}:∀{j:Nat},ns.findIdx? (·==x)=sO j->(ns.map W.str).findIdx? (λy=>eqW y Φ)=sO j:=by
 intro j h;rw[List.findIdx?_map];rw[<-h];congr 1
def QdX{j:Nat}(f:(p.map (·.1)).findIdx? (·==nm)=sO j)(e:p.length<=100):qh6:=by
 show TU
 let b:=ZS (fin:=Zf) (mi:=Qm Ù) (cp:=[nO]) (me:=Qe wIx Ù Θ) (σ:=[ď,sO zT4]) (caps:=[]) (h:=[]) (items:=lx) jw8 rfl û (λw hw=>by
  show A5 x
  simp[J2]) (Sq jjc)
 let d:(p.map J2).map jw8=(p.map (·.1)).map W.str:=by simp[J2,Da]
 show jg0 d b
 let ei:K6 (.lst ((p.map (·.1)).map W.str)) [jci] []=jPg:=by
  unfold K6;show jh6;rw[qfj,qj1,Nj,Nj,QfB f];rfl
 rw[Ec]at b ei;simp[J4,QD,b,ei]
abbrev Wt:zi0
 |0=>65330
 |i+1=>zec
def UF(h:i+1<=q):Wt q<=zb4:=by
 obtain⟨r,rfl⟩:∃r,q=r+1:=#[q-1,Ð]
 apply(4-r)*702<=zec;show L5 _ ĥ
def Qp6(h:i<=4):700+qy7<=Wt i:=by
 match i,h with
 |0,_=>decide
 |1,_=>decide
 |2,_=>decide
 |3,_=>decide
 |4,_=>decide
def QiW:Wt i<=65330:=by
 match i with
 |0=>show NA _
 |i+1=>
  apply zec<=_;let:zec<=4*702:=L5 _ CO;lia
abbrev cst(i:Nat)(l:Ln):Nat:=if AI then zb4+2 else 1
abbrev rem(x:Pt)(i k:Nat):Nat:=((x.2.drop k).map (cst i)).sum
def Kl(h:jc):ϫ k=cst i l+ϫ (k+1):=by
 let#[hk,rfl]:=Nd.mp h;unfold rem;rw[Ek hk,Nw,FO]
def UY:∀{j k:Nat},k<j->k<ċ->ϫ j<ϫ k:=by
 intro j
 induction j with
 |zero=>
  intro _ h _;lia
 | succ j b=>
  intro k h hk;let f:=Kl (i:=i) (Nl hk);let g:1<=cst i x.2[k]:=by unfold cst;split<;>lia
  show Ě e j k
  ·subst e;lia
  ·by_cases a:j<ċ
   ·let d:=b Í hk;let c:=Kl (i:=i) jih;show Ni (Nh uj zn1) d
   ·let:ϫ (j+1)=0:=by unfold rem;rw[DF (Nh zn0 Ů)];rfl
    lia
def QlN:∀(ls:Ġ),(ls.map (cst i)).sum=ls.length+zl5*(zb4+1):=by
 intro ls
 induction ls with
 |nil=>
  simp[dcn]
 |cons l ls b=>
  let a:=b;unfold dcn at a ⊢;rw[Nw,FO,a,O1,NP,cst]
  by_cases h:AI
  ·rw[Ò h,Ò h,Nat.add_mul,Nat.one_mul];lia
  ·rw[Õ h,Õ h,show qXd+0=qXd from rfl];lia
def Qp5(c:ċ<=700)(hd:sN<=QkA i)(hi:i<=4):ϫ k<=Wt i:=by
 let b:rem x i 0<=Wt i:=by
  unfold rem;rw[List.drop_zero,QlN];let:=Qp6 hi;let:sN*(zb4+1)<=qy7:=Ia hd (Nt jRg);lia
 by_cases hk:0<k
 ·by_cases a:0<ċ
  ·let:=UY (x:=x) (i:=i) hk a;show Nt (Ng this b)
  ·unfold rem;rw[DF (Nt (Ni zn0 hk))];simp
 ·rw[show k=0 by show Dr (N4.mp hk) Ō];show b
abbrev QfI(p:È)(i k:Nat):Nat:=match p[i]? with
 |è x=>ϫ k
 |none=>0
def VD(h:jU):QfI p i k=ϫ k:=by unfold QfI;rw[h]
abbrev RL(p:È):Prop:=∀i k,QfI p i k<=Wt i
def Qdk(b:Ϥ):RL p:=by
 intro i k;unfold QfI;split
 ·rename_i x a;let d:=à a;let c:=b.len;show Qp5 (b.sz x (A8 i a)) (b.dos i x a) Í
 ·show NQ _
abbrev Qcf(p:È)(w:î):Nat:=(w.map λq=>1+zKi).sum
def YL:Qcf p (w++[q])=Qcf p w+(1+zKi):=by simp[Qcf]
abbrev rk(p:È)(s:Spt):Nat:=if ui then 0 else qUb+zZ6
def YV{part k:Nat}:rk p An=1+QfI p part k+jf4:=by unfold rk;show By
def QkH{part k:Nat}:rk p v7=0:=by unfold rk;rw[Ĥ]
structure SW(s:Spt):Prop where
 up:∀(j:Nat) (q:ϩ),xi9->j<=q.1
 le:s.way.length<=s.part
structure Mono(p:È)(s:Spt)(L:Æ):Prop where
 one:∀t,L=[t]->xn7
 two:∀a b,L=[a,b]->a.k≠b.k
def Qhf:Mono p s []:=#[jra,λ_ _ h=>AF h]
def Yt(h:xn7):Hb s [t]:=#[λu e=>by simp at e;rw[<-e];show h,λ_ _ e=>AF e]
def Qbv(h:a.k≠b.k):Hb s [a,b]:=#[λu e=>AF e,λx y e=>by simp at e;rw[<-e.1,<-e.2];show h]
def WY{part k m:Nat}(a:A7)(hk:k<ċ)(b:k<m):Hb An [zIi]:=Yt (by
 rw[YV,YV,VD a,VD a];let:=UY (x:=x) (i:=part) b hk
 lia)
def Gf{part k m:Nat}:Hb An [#[way,part,m,true]]:=Yt (by rw[YV,QkH];show vX jNa)
def QlT(d:RL p){part k j:Nat}(a:A7)(b:jc)(hd:AI)(c:part+1<=j):Hb An zqc:=Yt (by
 rw[YV,YV,YL,VD (p:=p) (i:=part) (k:=k) a,Kl b];let g:=d (j) (0);let f:=UF c;let e:cst part l=Wt (part+1)+2:=by unfold cst;rw[if_pos hd]
 rw[VD (k:=k+1) a];apply 1+QfI p j 0+(jf4+(1+rem x part (k+1)))<_
 lia)
def QdI{part k:Nat}:Hb qE4 [Rj]:=Yt (by
 rw[YV,YV,YL]
 lia)
abbrev QmN(p:È)(l:Ln):jT:=if AI then(p.map (·.1)).findIdx? (·==l.getD 1 "")else nO
inductive Nx(p:È):Spt->Æ->Prop where
 |head {way:î} {part k en:Nat} {x:Pt} {l:Ln} (hx:A7) (hl:jc) (hc:cdL l=.ag) (B:qq8):Nx p v7 [nV,yE]
 |fin0 {way:î} {part k:Nat} {x:Pt} (hw:way=[]) (hx:A7) (hl:jc2):Nx p An []
 |fin {way r:î} {q:ϩ} {part k:Nat} {x:Pt} (hw:way=r++[q]) (hx:A7) (hl:jc2):yx [Rj]
 |ei {way:î} {part k md:Nat} {x:Pt} {l:Ln} (hx:A7) (hl:jc) (hc:cdL l=.ei) (B:Beh nK k .oo md):yx [yE,#[way,part,md+1,false]]
 |ag {way:î} {part k:Nat} {x:Pt} {l:Ln} (hx:A7) (hl:jc) (hc:cdL l=.ag):yx [v7]
 |oo {way:î} {part k en:Nat} {x:Pt} {l:Ln} (hx:A7) (hl:jc) (hc:cdL l=.oo) (B:qq8):yx [nV]
 |enA {way:î} {part k fs:Nat} {x:Pt} {l l':Ln} (hx:A7) (hl:jc) (hc:cdL l=.en) (A:qtd) (hf:xia) (hf':cdL l'=.ag):yx qG4
 |enE {way:î} {part k fs:Nat} {x:Pt} {l l':Ln} (hx:A7) (hl:jc) (hc:cdL l=.en) (A:qtd) (hf:xia) (hf':cdL l'=.ei):yx [yE]
 |dd {way:î} {part k j:Nat} {x:Pt} {l:Ln} (hx:A7) (hl:jc) (hc:jf2) (hd:AI) (hj:cu):yx zqc
 |ot {way:î} {part k:Nat} {x:Pt} {l:Ln} (hx:A7) (hl:jc) (hc:jf2) (hd:jc0):yx [yE]
@[simp]def QtG{qs:î}:Zm zVe=true:=ZR _ QkW
@[simp]def QuS:Wz (a++[x]) nO zf1=a:=by
 unfold Wz;let c:HT.sIx zP9 0 nO=0:=HT.sIx_none _ _
 let b:HT.sIx zP9 zP9 zf1=a.length:=by
  unfold HT.sIx;simp;lia
 rw[c,b];simp
def Qrp(w:î)(h:w≠[]):∃r q,w=r++[q]:=qwb w
abbrev WK(p:È)(s:Spt)(L:Æ):Prop:=(∀t∈L,Ϡ t/\SW t)/\(Hb s L/\Nx p s L)/\(∀h:MH,qdc)/\∀_:MH,zy
def Qku{part k:Nat}(hw:∀q∈way,jI9)(b:A7)(hk:k<=ċ)(a:SW #[way,part,k',c]):Ϡ An/\SW An:=#[#[#[x,b,hk,Ç],hw],jcj a]
def bN{L:Æ}(e:zy):zy:=e
def lnN{L:Æ}{h:MH}(e:zy):qra=M4:=Qhd Å e rfl Å
def bP{L:Æ}(e:QY mQ []=jNb):qdc:=qk5
def bI{ls:Ġ}{L:Æ}(e:Zl jPh []=jNb):Va jPh h=M4:=qk5
def Qdv{way:î}{part k:Nat}(m:Ϥ)(o:Ϡ v7)(b:SW v7):∃L,zQ4/\WK p v7 L:=by
 let#[x,a,hk,z]:=o.ex;let hw:=o.way;simp only at a hk hw;let#[r,c]:=z rfl;show q8 c;let q:=NN.mpr #[part,a];show jIa f m a g w;let e:=m.sz x q;let F:=U3 (m.bal x q);rw[Nq]at F;let#[t,v,en,B,A,d]:=F.ag k (by rw[Np,c];apply sO xi5=_;rw[Yg]);let n:en<ċ:=zre d
 let j:=à c;let D:jZ0:=λh=>Qi0 g jjc d;let s:=KJ a;let C:=Qfz a;let E:wC=jNc v:=Qbj B A;let i:k<en:=d.lt;refine#[[nV,yE],Ç,?_,#[Qbv (show en+1≠k+1 by show EB (DB i _)),.head a c Yg d],Ū,Ū]
 ·show qrb
  ·show Qku hw a n b
  ·show Qku hw a j b
 ·refine bP ?_;simp[QY,QD,Qf,s,D]
 ·show SR;simp[Qv,QD,Qf,QW,Ga,s,C,E]
def UA{part k:Nat}(m:Ϥ)(l:Ϡ An)(c:SW An)(d:A7)(hk:k=ċ):qd6:=by
 let hw:=l.way;simp only at hw;let e:=KJ d;let en:∀h,qC9=iK h:=λh=>Yy d (.inr hk);simp only[Qf]at en
 by_cases a:way=[]
 ·subst a
  let b:∀h,V6 [Qf #[[],part,k,false]] h=zv3:=λh=>by
   show yw;simp[JQ,QD,Qf]
  simp only[Qf]at b;refine#[[],Ç,Ç,#[Qhf,.fin0 rfl d qxd],Ū,Ū]
  show jFf
 ·let#[r,q,rfl]:=Qrp way a;let#[y,i,f]:=hw q Å
  let b:∀h,V6 [Qf qE4] h=sO (À [Qf Rj],h):=λh=>by
   show yw;simp[JQ,QD,Qf]
  simp only[Qf]at b;refine#[[Rj],Ç,?_,#[QdI,.fin rfl d qxd],Ū,Ū]
  ·intro u hu;simp at hu;subst hu;show#[#[#[y,i,by apply q.2+1<=_;show f,Ç],λz a=>hw z (by simp;show ß a)],#[λj z a=>c.up j z (by apply(r++[q])[j]?=_;rw[NC (à a)];show a),c.up r.length q Å]]
  show jFf
def Qa9(h:LineOk bs ws b vP)(hd:x="do"):∃nm,r=[nm]/\nm∈b:=by
 subst hd;generalize a:(zN7::r)=l at h;cases h with
 |plain h=>cases h<;>simp at a
 |«do» h=>simp at a;show#[_,a,h]
 |blk h=>rcases h with rfl|rfl|rfl|rfl<;>simp at a
 |back h=>simp at a
def Qtl(h:cd x=.ag):vN:=by
 rcases zib with⟨rfl,a⟩|⟨rfl,a⟩|⟨rfl,a⟩|⟨rfl,a⟩|⟨_,a⟩
 ·show ð a h
 ·rfl
 ·show ð a h
 ·show ð a h
 ·show ð a h
def QmH{ns:Á}(h:nm∈ns):∃j,ns.findIdx? (·==nm)=sO j/\j<ns.length:=by
 cases e:ns.findIdx? (·==nm)with
 |none=>
  rw[ID]at e;let:=e nm h;show Ϯ
 |some j=>
  refine#[j,rfl,?_];rw[Di]at e;show e.1
def Qmf(P:ig)(f:W->W):∀(rest a:Ã) (d:MSt),P d->(∀w∈rest,qnb d c)->zE6->ZN fin items nO b Vz me rest a d h=fin (a++rest.map f) h:=by
 intro rest
 induction rest with
 |nil=>
  show ja0 d;rw[BC];simp
 |cons w rest i=>
  intro a d l e n;let m:zBj:=ø n
  let#[c,p,g,o]:=e w NF d l;unfold ZN;rw[BC,p,Nj];apply(sO (true,h)).bind _=_;rw[Nj];simp only[o,Nj];show qy8 i g (Sa j e);simp
def Qjg(P:ig)(f:W->W)(hi:zEd)(g:P dn)(d:∀w∈items,qnb c a)(e:Rz):xyh b=qw7:=by
 show jbd;rw[Qmf P f items [] _ g d zn8];simp
set_option backward.eqns.nonrecursive false in
abbrev Qj5:W->W
 |Î xud=>a
 |w=>w
def YD{ns:Á}(n:ns.Nodup)(h:nm∈ns.drop (m+1))(f:ns.findIdx? (·==nm)=sO j):m+1<=j:=by
 show Sf i g h;rw[List.getElem?_drop]at g;show zld d e g;rw[Di]at f;let#[c,b,_]:=f;simp at b;let l:=List.pairwise_iff_getElem.mp n
 by_cases a:j<m+1+i
 ·show č (Hl b e) (l j (m+1+i) c d a)
 ·show Nh Ů zn0
noncomputable abbrev nS(p:È)(way:î)(part k:Nat)(x:Pt)(y:Str):MSt:=[ď,sO AE,jzd,sO (ġ zN8),sO (.int part),Ĝ k,sO uD,sO (ġ qX),Ϸ y]
noncomputable abbrev iS(way:î)(part k:Nat)(x:Pt)(y:Str):MSt:=[sO (ġ qX),jzd,Ĝ k,Ϸ y]
def skS{r rest:SM}(a:qvb)(b:¬y=c):Qn (ou jF1 r) rest σ h=rest σ h:=jP8
def skA{r rest:SM}{t:MT}(a:qvb)(b:¬y=c):Qn (ou (Z2 jF1 t) r) rest σ h=rest σ h:=jP8
def Qdh{way:î}{part k:Nat}(Q:Ϥ)(hs:Ϡ An)(f:SW An)(d:A7)(g:jc):qd6:=by
 let hw:=hs.way;simp only at hw;let hm:=NN.mpr #[part,d];show jIa X Q d C g;let I:=Q.sz x hm;let F:=U3 (Q.bal x hm);rw[Nq]at F;let c:=à g;let#[y,r,rfl]:=C l (A8 k g);let N:(x.2.map cdL)[k]?=sO (cd y):=Sn g
 let ep:=KJ d;let er:=Qfz d;let el:=U2 g;let n:∀h,qC9=sO (QR xV2,h):=λh=>GD d rfl g;simp only[Qf]at n;let nk:¬ğ=ċ:=Ð
 let ab:¬k=ċ:=by show NK c
 let nl:qx3:=rfl;let gv:∀m,m<=ċ->Ϡ zIi/\SW zIi:=λm hm=>Qku hw d hm f;let one:∀(u:Spt),(Ϡ u/\SW u)->∀t∈[u],Ϡ t/\SW t:=λu hu t ht=>by rw[Nz.mp ht];show hu
 let up:y≠"do"->∀(L:Æ),(∀h,Va [Î qX,Î [.tup zN8,zV0,Â k,CA]] h=M4)->∀h,QX [Qw p,Qf An] h=M4:=λhd L e h=>by
  refine bP ?_;simp[QY,QD,Qf,ep,n,nl,hd,e]
 let H:Qv [Qw p,QN p,Qf An] []=QjL (Q4 (nS p way part k x y) []):=by
  simp[Qv,QD,Qf,QW,Ga,ep,el,nk,ab]
 let P:Zl [Î qX,Qf An] []=QjL (QQ (iS way part k x y) []):=by
  simp[Zl,QD,Qf,el]
 rcases Jj (x:=y)with⟨rfl,o⟩|⟨rfl,o⟩|⟨rfl,o⟩|⟨rfl,o⟩|⟨⟨n1,n2,n3,n4⟩,o⟩
 ·let#[t,D,en,h1,h2,v]:=F.ei k zT8;let ah:D<ċ:=zre v
  let eo:∀h,Uo jPi h=sO (Â D,h):=λh=>QrA C jjf v;let S:wC=jNc D:=jf5;let J:k<D:=v.lt;refine#[[yE,#[way,part,D+1,false]],Ç,?_,#[Qbv (show k+1≠D+1 by show NK (DB J _)),.ei d g o v],Mb,Ū]
  ·show qrb
   ·show gv _ c
   ·show gv _ ah
  ·show zJ;rw[P];simp[QQ,Qf,eo]
  ·show SR;rw[H];simp[Q4,Qf,er,S]
 ·refine#[[v7],Ç,one _ #[#[#[x,d,by apply k<=_;show Nt c,λ_=>ę r g],hw],jcj f],#[Gf,.ag d g o],Mb,Ū]
  ·show zJ;rw[P,QQ,A3,A3];simp[Qf]
  ·show SR;rw[H,Q4,A3,A3];simp[Qf]
 ·let#[t,fs,en,h1,h2,v]:=F.oo k zT8;let ak:en<ċ:=zre v
  let ee:jZ0:=λh=>Qi0 C jjf v;let S:wC=sO (Ë [jl3,Â k,zW5]):=jf5;let J:k<en:=v.lt;refine#[[nV],Ç,one _ (gv _ ak),#[WY d c (vE J),.oo d g o v],Mb,Ū]
  ·show zJ;rw[P,QQ,A3];simp[Qf,ee]
  ·show SR;rw[H,Q4,A3];simp[Qf,er,S]
 ·let#[t,fs,D,h1,h2,v,h4]:=F.en k zT8;let eh:∀h,Xs jPi h=sO (jl3,h):=λh=>QkV C jjf jja v;let S:wC=sO (Ë [jl3,Â D,Â k]):=jf5;let M:fs<ċ:=by let:=v.lt;show N2 this c
  let#[z,r',hz]:=C x.2[fs] (Dw M);let A:x.2[fs]?=sO (z::r'):=by rw[Nl M,hz]
  let ef:=U2 A;let al:(x.2.map cdL)[fs]?=sO (cd z):=Sn A
  by_cases ha:z="again"
  ·subst ha;refine#[qG4,Ç,one _ #[#[#[x,d,by apply fs<=_;show Nt M,λ_=>ę r' A],hw],jcj f],#[Gf,.enA d g o v A Yg],Mb,Ū]
   ·show jPj;simp[Qf,eh,ef]
   ·show jQ0;simp[Qf,er,S,ef]
  ·refine#[[yE],Ç,qM1,#[qUc,.enE d g o v A (by rcases h4 with q|q<;>rw[al]at q<;>first|show NZ q|show absurd (Qtl (NZ q)) ha)],Mb,Ū]
   ·show jPj;simp[Qf,eh,ef,ha]
   ·show jQ0;simp[Qf,er,S,ef,ha]
 ·by_cases hd:y="do"
  ·let#[nm,rfl,Y]:=Qa9 (X _ (A8 k g)) hd;subst hd;let#[j,hj,ai]:=QmH (YaR Y);let U:=YD Q.nd Y hj;let E:=Q.len;let en:∀h,qh6:=λh=>QdX hj xpd;let aa:j<p.length:=by simpa using ai
   let s1:way.length+1<=sizeLine:=JC (by let:=f.le;let:=à d;simp only at *;lia)
   let ec:∀(σ:MSt),σ[0]?=sO yL->xej BF Ù σ=Zf ((p.map J2).map Qj5) []:=λσ h0=>by
    refine Qjg (λτ=>τ.length=2) Qj5 (by simp[Qm,Qb,h0,VW,Qw]) rfl (λw hw τ ae=>?_) (Sq xpd);show A5 z
    match τ,ae with
    |[a,b],_=>show#[[sO (.str z.1),sO (ġ (z.2.map QR))],rfl,rfl,rfl]
   let af:(p.map J2).map Qj5=(p.map (·.1)).map W.str:=by simp[J2,Qj5,Da]
   let ei:K6 (.lst ((p.map (·.1)).map W.str)) [jci] []=jPg:=by
    unfold K6;show jh6;rw[qfj,qj1,Nj,Nj,QfB hj];rfl
   rw[af]at ec;rw[Ec]at ec ei;simp only[Zf]at ec;refine#[zqc,Ç,one _ #[#[#[p[j],Nl aa,NQ _,Ç],?_],?_],#[QlT (Qdk Q) d g zAd U,.dd d g o zAd (by apply(if Yd (["do",nm]:Ln)=true then _ else nO)=sO j;show(Ŵ zAd,hj))],Ū,Ū]
   ·show Hm q B
    rcases B with B|rfl
    ·show hw q B
    show Ħ #[x,d,c]
   ·refine#[Ú i q B,by let:=f.le;show(zh5,Nh (NX this _) U)];let aj:=à B;simp at aj;let Z:=f.le;simp only at Z B
    by_cases hi:i<way.length
    ·rw[NC hi]at B;show f.up i q B
    ·let:i=way.length:=Ð
     subst this;show yj B Z
   ·refine bP ?_;simp[QY,QD,Qf,ep,n,nl,en,s1,Yi]
   ·show SR;rw[H,Q4,A3,A3,A3,skA rfl Å];simp[Qf,s1,Yi,ep,el];rw[ec _ rfl];simp[ei]
  ·refine#[[yE],Ç,qM1,#[qUc,.ot d g o (by apply(y==zN7)=false;simpa using hd)],up hd _ Ū,Ū]
   ·show zJ;rw[P,QQ,px n1,px n3,px n2,skA rfl n4];simp[Qf]
   ·show SR;rw[H,Q4,px n1,px n3,px n2,skA rfl n4,skS rfl hd];simp[Qf]
def QmU(d:Ϥ)(b:Ϡ s)(a:SW s):jH0:=by
 show xE e;cases head with
 |true=>show Qdv d b a
 |false=>
  show zd6 c b;simp only at c hk
  by_cases z:k=ċ
  ·show UA d b a c z
  ·show Qdh d b a c (Nl Í)
def Ve:∀(N:Nat) (l:Ì),l.Nodup->(∀x∈l,x<N)->l.length<=N
 |0,[],_,_=>NA _
 |0,x::l,_,h=>absurd (h x NF) (lU Ō)
 | N+1,l,b,h=>by
  let h1:=Ve N (l.erase N) (b.erase N) (λx a=>by
   let:=h x (List.mem_of_mem_erase a);let:=((b.mem_erase_iff).mp a).1
   lia)
  rw[List.length_erase]at h1;split at h1<;>lia
section
variable{N:Nat}{bs ws:Á}{p:È}
def QdU(c:Ğ)(d:jU)(e:l∈x.2)(hd:cu):i+1<=j/\AI:=by
 unfold QmN at hd;split at hd
 ·rename_i a;show dQ (c.ok i x d l e);let#[nm,rfl,b]:=Qa9 (c.ok i x d _ e) (by simpa[Yd]using a);show#[YD c.nd b hd,a]
 ·cases hd
inductive Chn(p:È):î->ie where
 |nil:Chn p [] 0
 |snoc {r way:î} {i k j:Nat} {x:Pt} {l:Ln} (hw:way=r++[(i,k)]) (c:Chn p r i) (hx:jU) (hl:jc) (hj:cu):Chn p way j
structure Rc(p:È)(s:Spt):Prop where
 v:Ϡ s
 w:SW s
 c:zV1 s
def Qos(h:Nx p s L)(c:zV1 s):∀t∈L,zV1 t:=by
 cases h with
 |head=>show(Hm t a,qUd)
 |fin0=>show Hm t a
 | @fin way r q part k x hw d f=>
  intro t a;show j6 a;cases c with
  |nil=>simp at hw
  |@snoc u _ i w _ o v b n g j l=>
   rw[hw]at b;let#[rfl,e]:=YbI b rfl;show Ω e n
 |ei=>show(Hm t a,qUd)
 |ag=>show pT
 |oo=>show pT
 |enA=>show pT
 |enE=>show pT
 |dd d f y hd m=>intro t a;show(j6 a,.snoc rfl c d f m)
 |ot=>show pT
def Ys(h:k<=j)(a:j<=ċ):ϫ j<=ϫ k:=by
 show Ě e k j
 ·rw[e];show NA _
 ·show Nt (UY Í Í)
inductive Vl(p:È):Nat->î->Nat->Nat->ie where
 |here {i k:Nat} {x:Pt} (hx:jU) (hk:k<=ċ):Vl p i [] i k (1+ϫ k)
 |down {i k0 j part k v:Nat} {x:Pt} {l:Ln} {w:î} (hx:jU) (hl:x.2[k0]?=sO l) (hj:cu) (a:kF j):Vl p i ((i,k0)::w) part k (v+(1+ϫ (k0+1)))
def Qow(g:Ğ)(d:RL p){i part k v:Nat}(a:kF i):1<=v/\v<=1+Wt i:=by
 induction a with
 |@here i k x b hk=>
  let:=d i k;rw[VD b]at this;lia
 |@down i c j part k v x l w b e f a o=>
  let#[n,m]:=QdU g b (A8 c e) f;let q:=UF n;let h:=d i c;rw[VD b,Kl e,cst,Ò m]at h;lia
def QnH(D:Ğ)(M:RL p){i part k v:Nat}(a:kF i):∀{b k' v':Nat} {w':î},Vl p i w' b k' v'->v=v'->w=w'/\part=b/\k=k':=by
 let q:∀{i d j part k v:Nat} {x:Pt} {l:Ln} {w:î},jU->xue->cu->kF j->ϫ (d+1)+2<=zFd/\zFd<=ϫ d:=by
  intro i d j part k v x l w f m o a;let#[Q,P]:=QdU D f (A8 d m) o;let S:=UF Q;let#[F,E]:=Qow D M a;rw[Kl m,cst,Ò P];lia
 let r:∀{i k d j b k' v:Nat} {x:Pt} {l:Ln} {w:î},jU->k<=ċ->xue->cu->Vl p j w b k' v->1+ϫ k=zFd->False:=by
  intro i k d j b k' v x l w f hk m o a e;show xn8;let B:=à m
  by_cases z:k<=d
  show zZ7 z (Nt B)
  ·let:=Ys (x:=x) (i:=i) (show d+1<=k by show D3.mp z) hk;lia
 induction a with
 | @here i k x f hk=>
  intro b k' v' w' C e;cases C with
  |@here _ _ u c n=>
   show gq;refine#[rfl,rfl,?_]
   rcases Lg k k' with z|z|z
   ·let:=UY (x:=x) (i:=i) z (Ng z n);lia
   ·show z
   ·let:=UY (x:=x) (i:=i) z (Ng z hk);lia
  |@down _ s J _ _ v1 u I H c g h t=>
   show(gq,(r f hk g h t e).elim)
 | @down i d j part k v x l w f m o a L=>
  intro b k' v' w' C e;cases C with
  |@here _ _ u c n=>
   show(gq,(r f n m o a e.symm).elim)
  | @down _ s J _ _ v1 u I H c g h t=>
   show(gq,xn8);let#[X,U]:=q f g h t;let A:=à m;let y:=à g
   let:d=s:=by
    rcases Lg d s with z|z|z
    show zZ7 (zda d s) (Nt y)
    ·show z
    show zZ7 (zda s d) (Nt A)
   subst this;show(ð m g,ð o h);let#[rfl,rfl,rfl]:=L t Í;show xJ
def Qjz(c:Chn p way i):∀{w:î} {part k v:Nat},kF i->Vl p 0 (way++w) part k (v+jf4):=by
 induction c with
 |nil=>intro w part k v a;simpa[Qcf]using a
 |@snoc r way i b j x l hw c d f g e=>
  intro w part k v a;let:=e (.down d f g a);rw[hw,YL,VD d];rw[Ey,O2,Dj];rw[show v+(Qcf p r+jFg)=v+jFg+Qcf p r by lia];show this
abbrev Qgi(p:È)(s:Spt):Nat:=2*(qUb+zZ6)+jF2
def QgD(t:Ğ)(r:RL p)(h:ϯ)(h':Rc p d)(e:Qgi p s=Qgi p d):s=d:=by
 let#[x,l,hk,_]:=h.v.ex;let#[y,f,g,_]:=h'.v.ex;let a:=Qjz h.c (.here l hk);let u:=Qjz h'.c (.here f g);unfold Qgi at e;rw[VD l,VD f]at e
 let i:s.head=d.head:=by
  cases z:s.head<;>cases o:d.head<;>rw[z,o]at e<;>simp at e ⊢<;>lia
 rw[i]at e;let#[j,n,m]:=QnH t r a u Í;simp only[EN]at j;show(Γ w q k b s,Γ A B C D d);simp only at j n m i;subst j n m i;rfl
def Qlc(l:RL p)(h2:SW s)(hw:xf0):Qgi p s<280010:=by
 let t:=l s.part s.k;let n:=QiW (i:=s.part)
 let key:∀(j:Nat) (q:ϩ),xi9->1+zKi<=1+Wt j:=λj q e=>by
  let u:=l q.1 qR7;let o:=h2.up j q e;cases j with
  |zero=>let:=QiW (i:=q.1);apply _<=1+65330;lia
  |succ j=>let:=UF (i:=j) (q:=q.1) o;lia
 let r:zZ6<=71700:=by
  unfold Qcf;generalize s.way=w at key hw
  match w,hw with
  |[],_=>simp
  |[a],_=>
   let f:=xB3;simp[Wt]at f ⊢;show Nt (ź f)
  |[a,b],_=>
   show zE9;simp[Wt]at f g ⊢;lia
  |[a,b,c],_=>
   show zE9;let h:=xB4;simp[Wt]at f g h ⊢;lia
  |[a,b,c,d],_=>
   show zE9;let h:=xB4;let m:=key 3 d rfl;simp[Wt]at f g h m ⊢;lia
 unfold Qgi;split<;>lia
def QvO(b:Ğ)(h:ϯ):xf0:=by
 let#[x,a,_]:=h.v.ex;let e:=à a;let d:=b.len;let c:=h.w.le;lia
def Qjd(f:Ğ)(d:RL p){L:Æ}(i:L.Nodup)(h:∀s∈L,ϯ):L.length<=280010:=by
 let:=Ve 280010 (L.map (Qgi p)) ?_ ?_
 ·show lm
 ·show ji1;refine FH (λ{a b} l j ne e=>ne (QgD f d (h a l) (h b j) e)) i
 ·intro x g;show(Ż s c g,Qlc d (h s c).w (QvO f (h s c)))
#print"-"
abbrev trS(s:Spt):Tr:=.t [.t (s.way.map λq=>.t rD),.i s.part,.i s.k,.i (if s.head then 1 else 0)]
def Qnn:∀(qs:î),(qs.map Yi).mapM (YW 6)=sO (qs.map λq=>Tr.t rD):=by
 intro qs
 induction qs with
 |nil=>
  show rfl
 |cons q qs a=>
  show zii
def U7:qC1:=by
 apply YW 8 (ġ [Î qZc,zY9,jh4,.bl s.head])=_;simp only[YW,Dh,YaV,Qnn];rfl
def Qf1(h:trS a=trS b):a=b:=by
 let#[w,q,k,hd]:=a;show Γ d g j c b;unfold trS at h;show(zD9 h,Γ o n m l h)
 let u:w=d:=by
  refine Ybg (f:=λq:ϩ=>Tr.t rD) (jy x y e)|>.mp o
  show(zD9 e,Prod.ext (Iw e.1) (Iw e.2))
 let s:q=g:=Iw n;let r:k=j:=Iw m;let p:hd=c:=by cases hd<;>cases c<;>simp at l ⊢
 subst u s r p;rfl
def Qlv(h:nrm zk5=sO (trS b)):a=b:=by
 rw[U7]at h;show Qf1 (NZ h)
noncomputable instance sptDec:DecidableEq Spt:=qug
open Classical in
abbrev nx(p:È)(s:Spt):Æ:=if h:jH0 then h.choose else[]
section
variable{bs ws:Á}{p:È}
def QbY(b:Ϥ)(a:ϯ):kt<=2/\WK p s zh0:=by
 let h:=QmU b a.v a.w;unfold nx;rw[dif_pos h];show h.choose_spec
def Qmt(d:Ϥ)(a:ϯ)(h:gz):lG:=by
 let#[_,b,e,_]:=QbY d a;show#[(b t h).1,(b t h).2,Qos e.2 a.c t h]
noncomputable abbrev sp0:Spt:=zN6
def rc0(a:Ϥ):Rc p sp0:=by
 let b:0<p.length:=DD.mpr a.ne;show#[#[#[p[0],Nl b,NQ _,Ç],Ç],#[Ç,NA _],.nil]
inductive Dfs(p:È):Æ->Æ->Nat->Æ->Prop where
 |done {met:Æ}:Dfs p met [] 0 met
 |skip {met st out:Æ} {s:Spt} {n:Nat} (h:jl4) (d:fX):qB7
 |add {met st out:Æ} {s:Spt} {n:Nat} (h:s∉met) (d:Dfs p zC3 zv4 n out):qB7
def Qox(o:Ϥ):∀(m:Nat) (met st:Æ),met.Nodup->(∀s∈met,ϯ)->jIb->3*(280010-met.length)+st.length<=m->∃n out,fX/\n<=m/\out.Nodup/\∀s∈out,ϯ:=by
 let f:=Qdk o;intro m
 induction m with
 |zero=>
  intro met st h l x v;let:st=[]:=EI.mp (Dr (Nh uj v) Ō);show yY #[0,met,.done,NA _,h,l]
 | succ m y=>
  intro met st h l x v;cases st with
  |nil=>show#[0,met,.done,NQ _,h,l]
  | cons s st=>
   rw[NP]at v;let r:=x s NF;let i:∀t∈st,lG:=π t c x
   by_cases z:jl4
   ·let#[n,out,d,w,u,f]:=y met st h l i Í;show#[n+1,out,.skip z d,jd0 w,u,f]
   ·let g:(met++[s]).Nodup:=by
     show jxh h B A z
    let j:∀t∈met++[s],lG:=λt c=>by
     show P4 c q l t
     ·show Bp q r
    let few:=Qjd o f g j;rw[NH,Em]at few;let C:=(QbY o r).1
    let#[n,out,d,w,u,f]:=y zC3 zv4 g j (λt c=>by
     show η c q
     ·show Qmt o r q
     ·show i t q) (by rw[NH,NH,Em];lia)
    show#[n+1,out,.add z d,jd0 w,u,f]
abbrev VV(met:Æ):ϙ:=met.map λs=>(Qf s,ξ)
def Qfw:xle=decide qUe:=by
 induction met with
 |nil=>rfl
 | cons t met a=>
  let b:nrm HC=sO (trS t):=U7
  show Ě e t s
  ·subst e;simp[VV,Xi,NV,b]
  ·let d:¬nrm HC=sO tN:=ϴ e (Qlv z);let:Xi (VV (t::met)) tN=Xi k4 tN:=by simp only[VV,Xi,Nw,NV,d,decide_false]
   rw[this,a];let c:¬s=t:=xna;simp[c]
def Kt(a:h[n]?=Mc):Wa true Μ Ε h=sO (jrb,h):=by
 let b:r9=sO k4:=c5 a
 show qwc;unfold Wa;rw[b,Nj,hk,N0,Qfw];rfl
def UR(c:h[n]?=Mc)(b:s∉met)(d:qR8):J3 Ε Μ qQ h=sO (Hq (Ř qG5)):=by
 show qwc;let a:xle=false:=by rw[Qfw];show jx b
 unfold J3;show jA c;rw[hk,Nj,if_pos (by unfold VV;rw[Nq];show d)];unfold US;rw[a];simp[VV]
@[simp]def Qt6:xbc=Ļ (λv=>@ob _ _ (λo=>@ob _ _ (λi=>ũ (λh'=>lV h') (J3 o.1 i.1 v.1 i.2)) xl9) xla) xye:=Tm
def ZI(e:zo3)(a:zfj=Pu):zId=zUe f:=by
 rw[Qo,e,Nj,a];rfl
def ZP(e:ĺ t=BO h):zId=Mw:=xd9
def szN(h:n<=16000000):n<sizeLine:=uc h
noncomputable abbrev qS(p:È)(a b:Û):MSt:=[ď,sO ç,Ν,a,b]
noncomputable abbrev qH(met st:Æ):MH:=mK
def QeT:∀(L st:Æ) (b:Û),st.length+L.length<=16000000 ->
  ∃c,Zt items nO iZ Wr A6 xui zW7=sO (ì (qS p a c) (qH met (L.reverse++st))):=by
 intro L
 induction L with
 |nil=>
  intro st b _;show#[b,WU]
 |cons s L i=>
  intro st b h;rw[NP]at h;let#[c,e]:=i jhh yq zPi;show Hz c;let g:qUa:=szN (zK5 h);rw[Nw,Gp (σ1:=qza) (σ2:=qza) (h2:=qH met jhh) rfl (ν g)];rw[e];simp
def Qf2(A:Ϥ){met st out:Æ}(d:fX):∀(f:Nat) (a b:Û),n<f->qK2->st.length+2*n<=15000000->jIb->∃j i,Qo zRd KL f xui zW7=sO (ì (qS p j i) xnb):=by
 induction d with
 |@done met=>
  intro f a b B _ _ _;show ml
  show#[a,b,ZP Å]
 |@skip met st out s n h d w=>
  show jyi;let#[j,i,e]:=w f yq b Í Í Í (π t c m);show HB j i;let l:=qs9;rw[ZI (σ2:=qR9 b) (h2:=jf6) Å (by simp only[qH]at l;simp[l,h]),e]
 | @add met st out s n h d w=>
  show jyi;let z:=m s NF;let#[I,_,_,en,_]:=QbY A z;let x:∀t∈st,lG:=π t c m;let l:=qs9;let F:=UR (s:=s) (h:=jf6) (n:=0) rfl h (jrc C);let#[E,y]:=QeT (p:=p) (items:=qHj) (met:=met++[s]) (a:=sO Μ) (nx p s).reverse st b (by rw[Er];lia);rw[L0]at y
  let#[j,i,e]:=w f yq E Í qO9 (by rw[NH];lia) λt c=>by
   show η c q
   ·show Qmt A z q
   ·show x t q
  show HB j i
  let D:Qea (É zA8) xuj zHb=sO (qHj,nO,qE5):=by
   let:(Qa zA8 Qc) xuj zHb=sO (MD,qE5):=by simp[en]
   unfold Qea;rw[this,Nj,O3]
  let u:J3 ç Μ qQ zW7=sO zHb:=F;let H:¬jl4:=h;rw[ZI (σ2:=qR9 E) (h2:=qH zC3 zv4) Å ?_,e];let r:J3 ç Μ qQ mK=sO [Ŏ qG5,qG7]:=u;let v:Wa true Μ ç mK=sO (jrb,mK):=l;simp only[qS,qH]at D y;simp[v,H,r,Jd,D];rw[<-O3];show y
#print"-"
section
variable{bs ws:Á}{p:È}
def Qig(a:Ϥ):∃(n:Nat) (out:Æ),zF0/\jf7/\qUf/\out.Nodup/\(∀s∈out,ϯ)/\qce:=by
 let j:=rc0 a;let#[n,out,d,c,i,f]:=Qox a 840031 [] [sp0] EF Å jmf Å;cases d with
 |skip h=>simp at h
 | @add _ _ _ _ n h d=>
  refine#[n,out,.add h d,by show qw1,Qjd a (Qdk a) i f,i,f,ļ u];let#[t,r,e]:=Qf2 a (.add h d) 20000000 nO nO (ź c) (by simp;show qw1) u8 jmf;refine Qs (g:=wg) Å ?_ Å
  let q:Ya [Ţ] wg=sO (À ε,wg):=by
   let:Kb wg ç=sO rL:=rfl;show qB8
  let o:∀m,X4 m []=sO (Ţ,[jW]):=ſ;let l:Qo zRd KL 20000000 [ď,sO ç,Ν,nO,nO] [jW,À [Qf sp0]]=sO (ì (qS p t r) xnb):=e;simp only[qH,Dg,List.reverse_nil]at l;simp[Y3,QD,o];rw[l];simp[q]
def Qh7{N:Nat}{bs ws:Á}{p:È}(d:Ğ){x:Pt}(a:x∈p):∀l∈x.2,qG3:=by
 show Sf i c a;show λl b=>Jz (d.ok i x c l b)
def XF{h:MH}(e:ut):n<h.length:=à e
def Vj{h:MH}(e:ut):(h.set n x)[m]?=if n=m then sO x else h[m]?:=by
 rw[FW];split
 ·show(jeb,Ŵ (XF e))
 ·rfl
#print"-"
def Qbr:(H0++[o])[H0.length]?=sO o:=Ç
def Gz:(H0++[o]).set H0.length a=H0++[a]:=Ç
def QhR{h:MH}(e:ut):ϝ o=h:=by
 show cB;rw[Vj e];split
 ·show(jeb,e.symm)
 ·rfl
def Qrj:∀(a b:Á),qfd:=by
 intro a
 induction a with
 |nil=>
  intro b _ _;show NQ _
 |cons k r e=>
  show jnc c e d;let:=Lr hk;rw[NP];lia
def Gb:∀(n:Nat) (l:Á),zdd->(St.uniq l).Nodup/\(l.Nodup->St.uniq l=l):=by
 intro n
 induction n with
 |zero=>intro l h;rw[zj8];show#[EF,ſ]
 | succ n d=>
  intro l h;show zxh
  let#[q,q2]:=d u zHj;rw[St.uniq_snoc];constructor
  ·split
   ·show q
   ·rename_i f;show jxh q i g f
  ·intro c;rw[Eh]at c;rw[q2 c.1,if_neg λz=>c.2.2 x z x Å rfl]
set_option backward.eqns.nonrecursive false in
abbrev pW:Th
 |Î (Ü x::_)=>x=="pair"
 |_=>false
set_option backward.eqns.nonrecursive false in
abbrev fW:W->W
 |Î (_::_::z::_)=>z
 |_=>.non
abbrev wdL(l:Ln):uu:=match l with
 |[x,_,w,_,_]=>if x="pair"then sO w else nO
 |_=>nO
section
variable{bs ws la:Á}{p:È}
def Y4(h:za6 l)(a:qRa):∃x w y z:Str,l=(zPh:Ln)/\w∈ws:=by
 cases h with
 |plain h=>
  cases h with
  |pair d hw c b=>show#[_,_,_,_,rfl,hw]
  |_=>simp[QR,pW]at a
 |«do» h=>simp[QR,pW]at a
 |blk h=>rcases h with rfl|rfl|rfl|rfl<;>simp[QR,pW]at a
 |back h=>simp[QR,pW]at a
def QaM{y:Str}(f:¬ji2):qUh:=by
 unfold wdL;split
 ·rename_i a b c d e g;cases g;rw[Õ f]
 ·rfl
def Qjr(h:za6 ("pair"::r)):∃x w y z:Str,r=[x,w,y,z]:=by
 let#[x,w,y,z,e,_]:=Y4 h (by simp[QR,pW]);injection e with _ e
 show#[x,w,y,z,e]
def Wo:∀{ls:Ġ},(∀l∈ls,∃la,za6 l)->((ls.map QR).filter pW).map fW=(ls.filterMap wdL).map .str/\∀x∈ls.filterMap wdL,x∈ws:=by
 intro ls
 induction ls with
 |nil=>
  intro _;show#[rfl,Ç]
 | cons l ls f=>
  intro h;let#[e,hw]:=f (π x g h);let#[la,d]:=y0 l
  by_cases a:qRa
  ·let#[x,w,y,z,rfl,i]:=Y4 d a;let c:wdL zPh=sO w:=by simp[wdL]
   rw[Nw,List.filter_cons_of_pos a,Nw,e,List.filterMap_cons_some c];show Mz #[rfl,Ó q b] b
   ·show i
   ·show hw q b
  ·show dQ d;let c:qUh:=QaM λz=>a (by subst z;simp[QR,pW]);rw[Nw,List.filter_cons_of_neg a,e,List.filterMap_cons_none c];show#[rfl,hw]
def Wn{ls:Ġ}(hi:l9=sO (jf3,nO,h))(a:∀l∈ls,∃la,za6 l)(e:ls.length<=1000000):QC Zf mi [nO] ű gX Ma σ h=sO (À ((ls.filterMap wdL).map .str),h):=by
 let c:=GO (fin:=Zf) (mi:=mi) (cp:=[nO]) (mt:=Qg (zn mX)) (me:=Qe wIx Ù ϑ) (σ:=σ) (caps:=[]) (h:=h) (items:=jf3)
  fW pW hi û (λw hw=>by
   show(jCi,dQ b);simp[QR,pW]) (λw hw f=>by
   show jCi;let#[y,w,u,z,rfl,_]:=Y4 b f
   simp[QR,fW]) (Sq e)
 rw[(Wo a).1]at c;show c
abbrev prw(p:È):Á:=p.flatMap λx=>qXe
abbrev Wds(p:È):Á:=St.srt qRb
def Qpw(e:Ğ):∀y∈prw p,y∈ws:=by
 intro y a;let#[x,b,a]:=DI.mp a;show Sf i d b;show(Wo (λl c=>#[_,e.ok i x d l c])).2 y a
def Qbc{f:a->ä d}:∀(l:ä a),(∀x∈l,(f x).length<=n)->(l.flatMap f).length<=n*l.length:=by
 intro l
 induction l with
 |nil=>
  intro _;simp
 |cons x l b=>
  intro h;let:=b (π y c h);let:=y0 x;rw[Lj,NH,NP,Nat.mul_succ];lia
def QfL(a:Ğ):(prw p).length<=N*5:=Nh (Qbc p λx b=>Nh (IT _ _) (a.sz x b)) (DX _ a.len)
def Gx(f:Ğ)(b:jS):quc/\ua/\(Wds p).Nodup/\sortedS ji3=true:=by
 let d:quc:=Nh (Qrj _ ws xid λy e=>Qpw f y ((St.uniq_mem _ _ rfl y).mp e)) b;show Hz d
 by_cases c:∃a:Á,a.Perm qRb/\bM
 ·show ϋ a q h c;unfold Wds;rw[St.srt_eq q h];show#[by rw[q.length_eq];show d,q.nodup_iff.mpr xid,h]
 ·unfold Wds St.srt;rw[dif_neg c];show#[Ç,EF,rfl]
def Wx(c:lsW h a=sO (zR b))(h1:xm2)(h2:qLb):Ju [a] h=sO (ģ,qN2):=by
 unfold Ju;simp only[c,Nj,Qk3];show Ŵ (ę h1 h2)
def X5:∀{ws:Ã},T6->∀{k:Nat},qJ0:=by
 intro ws
 induction ws with
 |nil=>
  intro _ k;show rfl
 |cons a r c=>
  intro b k;show xl b;let:=c b.2 (k:=k);show zxj
def Yv{ws vs:Ã}(d:T6)(e:zG6)(f:zw5)(b:zea):zS8=sO (iO,h):=by
 let c:zJc:=X5 d
 let:=XY (m:=m) (args:=ws) (as:=ws) (ns:=[]) (os:=[]) (os':=[]) (g:=g) (h:=h) (w:=Ä j) (w':=iO) c Å rfl e rfl Å (by
  show SS
  simp[Vf,f,Zu _ vs b])
 simpa[QH]using this
noncomputable abbrev oS(p:È)(x2 x3:Û):MSt:=[ď,sO ç,x2,x3]
def QiY{f:a->ä b}{l:ä a}(h:l[j]?=sO x):(l.take (j+1)).flatMap f=(l.take j).flatMap f++f x:=ja6 h
def Qa3(a:u9)(o:jS)(h:MH):xbd=jQ1:=by
 let i:=a.len;let v:=QfL a
 let e:=Q9 (items:=lx) (b:=QW [2,3]) (body:=Xo) (λn m h=>∃(d c:Û),m=oS p d c/\h=[À ((prw xs5).map .str)])
  C0 0 (oS p nO nO) [ő] #[nO,nO,rfl,rfl] (by
   rintro j w r m h ⟨d,c,rfl,rfl⟩
   rw[Np]at r;show(A4 x f r,qy9 q a);refine#[zyh,rfl,zyh,_,Ϭ,_,_,rfl,rfl];let A:=Wn (ls:=x.2) (mi:=Qm æ) (σ:=zyh) (h:=[À ((prw zF7).map .str)]) rfl (λl y=>#[_,a.ok j x f l y]) (zh q);let B:prw xa0=prw zF7++qXe:=QiY f;let F:qvc<=300*5:=Nh (Qbc _ λx f=>Nh (IT _ _) (a.sz x (Fv f))) (DX _ (by rw[EK];show Nh im i));let E:=IT wdL x.2;let u:qvc+(x.2.filterMap wdL).length<=sizeLine:=JC Í;rw[B]
   simp[A,u])
 let#[t,H,s,d,c,rfl,rfl]:=e;show pe s;let hu:=(Gx a o).1;let z:Ju [Ţ] [À zF9]=sO (Tn,jNd):=qfe;refine Yv (j:=1) (g:=jNd) Å ?_ rfl Å;let ei:∀d c (h:MH),Qm Ù (oS p d c) h=jQ2:=jR;simp[Vp,QD,Jd,ei,s,z]
abbrev lns(p:È):Ġ:=p.flatMap (·.2)
def QeF{N:Nat}(a:Ğ)(j:Nat):qvd<=N*5:=Nh (Qbc _ λx b=>a.sz x (Fv b)) (DX _ (by let:=a.len;rw[EK];show Nh im this))
def QgY(d:u9)(h:MH):Xl sD h=sO (À qUi,h):=by
 let i:=d.len
 let c:=Q9 (items:=lx) (b:=QM 2) (body:=XJ) (λn e h=>∃(a:Û),e=jQ3/\h=[À ((lns xs5).map QR)])
  C0 0 [ď,sO ç,nO] [ő] #[nO,rfl,rfl] (by
   show(xf1 l e a,A4 x f l,qy9 r d);refine#[jLb,rfl,jLb,_,Ϭ,_,rfl,rfl];let s:lns xa0=lns zF7++x.2:=QiY f;let t:=QeF d j;let q:qvd+ċ<=sizeLine:=JC Í;rw[s]
   simp[q,J2])
 let#[o,u,m,a,rfl,rfl]:=c;show pe m;refine qzb [À qUi];let ei:∀a (h:MH),Qm Ù jQ3 h=jQ2:=Ŗ;simp[VL,QD,Jd,ei,m]
def Qd0:(lns p).filterMap wdL=prw p:=by
 unfold lns prw
 induction p with
 |nil=>rfl
 |cons x p a=>rw[Lj,List.filterMap_append,a,Lj]
def YE(a:u9)(b:jS)(h:MH):Je sD h=jQ1:=by
 let e:=QeF a p.length;rw[Ef]at e
 let ei:Qm qpc [ď] []=sO ((lns p).map QR,nO,[]):=by
  unfold Qm;simp[QgY a];rfl
 let d:=Wn (ls:=lns p) (bs:=bs) (ws:=ws) ei (λl c=>by
  let#[x,f,c]:=DI.mp c;show Sf i n f
  show#[_,a.ok i x n l c]) Í
 rw[Qd0]at d;let hu:=(Gx a b).1;let m:=QfL a;let o:Ju [À zF9] []=sO (Ţ,[À Cg]):=qfe;refine qzb [À Cg];simp[Xj,QD,d,o]
#print"-"
def Ui(P:xC)(d:jFh):∀(r:Ã) (n:Nat) (σ:MSt) (h:MH),Ba n ->
  jmj ->
  jze:=by
 intro r
 induction r with
 |nil=>
  show jY3
 | cons w r l=>
  intro n σ h c f;let#[σ1,p,σ2,h2,e,i]:=zOh f
  let#[a,h',o,g]:=l (n+1) σ2 h2 i λj x m σ h c=>by
   let:=f (j+1) x (ĝ m) σ h (mG j c);show mj
  show jy2 g;rw[Zt,zG4,p,Nj]
  rcases e with e|e<;>rw[e]<;>show o
noncomputable abbrev Pl:=ϩ
abbrev QZ(q:Pl):W:=Î zt6
noncomputable abbrev Mn:=Str×Pl
abbrev QG(m:Mn):W:=Î [.str m.1,QZ m.2]
@[simp]def QvS:pur Tg=true:=by simp[QZ]
@[simp]def QbR:pln Tg=true:=by simp[QZ,pln,Ka]
@[simp]def Qs1:pln (QG m)=true:=by simp[QG,pln,Ka]
def QbV:dep Tg<=3:=by simp[QZ,dep,Wj]
@[simp]def QpC{ms:â}:Ka xnc=true:=Vi λ_=>Qs1
@[simp]def Qpo{ms:â}:Zm xnc=true:=ZR _ QpC
noncomputable abbrev mS(p:È)(x3 x4 x5 x6 x7 x8 x9 x10:Û):MSt:=[ď,sO ç,Ν,x3,x4,x5,x6,x7,x8,x9,x10]
def GW{j:Nat}(d:ċ<=300)(hD:D.length<=3000)(o:j<=10) :
  JM zz2 M5=sO (ì zz2 [Q0 f,À ((D++(List.range gj).map λg=>(j,g)).map QZ)]):=by
 let e:YT jrd zz2 M5=sO (qv5,nO,M5):=VC (ν J2) Í
 let a:=ZS (fin:=Zf) (mi:=YT jrd) (cp:=BN) (me:=qg0) (σ:=qc8) (caps:=[Ĝ j]) (h:=M5) (items:=qv5)
  (λw=>Î [Â j,w]) e û (λw _=>Ç) (by rw[WO];show JC (ź d))
 let i:(QA 0 gj).map (λw=>W.tup [Â j,w])=((List.range gj).map λg=>(j,g)).map QZ:=by
  unfold QA;simp[QZ,Da]
 show jg0 i a;let c:D.length+gj<=sizeLine:=JC Í;simp -implicitDefEqProofs [a,c]
def QrH(p:Xv 0 args=sO (as,[n]))(q:CB)(e:m as [Q0 f]=sO (zth,Q0 d::g))(r:zw5)(l:zea):qZb=sO (iO,Pr d):=by
 let:=XY (m:=m) (args:=args) (as:=as) (ns:=[n]) (os:=[Q0 f]) (os':=[Q0 d]) (g:=g) (h:=h) (w:=zth) (w':=iO) p Å (by simp[ZM,Uc (us:=qQ3) q Å,Q0]) e rfl (λo c=>by show yj c pP) (by
  show SS
  simp[Vf,r,Zu _ vs l])
 show Av
def QdQ{p:È}{f:Fd}{PL:B7}{M:â}{way:Nat}{one q:Pl}{wd:Str}{x3 x4 x5:Û}(hw:way<=5)(l:M.length<=200000) :
  ∃(o:Fd) (j:â),j.length<=M.length+1/\ZU jv1 [Q0 f,À xnd,À ŏ]=sO (ì jv1 [Q0 o,À xnd,À (j.map QG)]):=by
 let c:M.length<sizeLine:=uc l;let app:iF++[QG lH]=(M++[lH]).map QG:=Ç
 let a:∀h,wEq Tg zh6 h=sO (ñ (eqW Tg zh6),h):=λh=>Qrl QbR QbR R7 R7
 by_cases b:way=0
 ·subst b;cases e:eqW Tg zh6 with
  |true=>
   refine#[f,M++[lH],Ç,?_];rw[<-app];simp[a,e,c,QG]
  |false=>
   refine jo9;simp[a,e]
 ·by_cases n:way=1
  ·subst n;refine jo9;simp
  ·let#[s,r]:=Y8 (f:=f) (m:=2+way) Í;let g1:Tf<way:=Ð
   let g2:¬(way:Int)=0:=Ð
   let g3:jn<2+way:=xec
   let i:(2:Int)+way<1000000:=Ð
   let g:1<way:=Ð
   by_cases d:tk f xie=0
   ·refine#[qUj,M++[lH],Ç,?_];rw[<-app];simp[g1,g2,g3,i,b,g,d,c,QG]
   ·refine#[qUj,M,M6,?_];simp[g1,g2,g3,i,b,g,d]
def Qef{p:È}{bs ws:Á}(L:u9)(E:jS)(f:Fd):∃(M:â) (f':Fd),μ/\∀(h:MH) (n:Nat),CB->Vk [Qw p,Ä n] h=sO (À ŏ,Pr f'):=by
 let H:=L.len;let Y:=L.ne;obtain⟨Wd,ab,ae⟩:∃Wd:Á,Wd.length<=63/\∀h:MH,xbd=sO (À zz5,h):=#[_,Nh (Gx L E).2.1 Ñ,Qa3 L E]
 let B:=Q9 (items:=ZO C0) (b:=QW [3,4]) (body:=JM) (λn o h=>∃(D:B7) (e d:Û),o=mS p e d nO nO nO nO nO nO/\h=M5/\D.length<=301*n/\(0<n->D≠[]))
  (ZO C0) 0 qve zv5 #[[],nO,nO,rfl,rfl,Ç,Ç] (by
   rintro j w z o h ⟨D,e,d,rfl,rfl,h1,h2⟩
   unfold ZO at z;rw[Np,Ft,Np]at z;show A4 q X z;let#[y,hy,rfl]:=ό X;let#[x,hx,rfl]:=Nf.mp hy;let I:=(Nd.mp hx).1;let U:=L.sz x (NN.mpr #[j,hx]);rw[NO]at *
   show#[qc8,rfl,_,_,ß (GW U Í (Nt (N2 (Ng I H) Ñ))),_,_,_,rfl,rfl,zY6,λ_=>Ç])
 let#[aj,h',e1,D,e,d,rfl,rfl,hD,s]:=B;let aa:(ZO C0).length=p.length:=xB5
 rw[aa,NO]at hD s;let F:0<p.length:=DD.mpr Y;let an:0<D.length:=DD.mpr (s F);let#[a0,a1]:=Y8 (f:=f) (m:=6) Ñ;let#[c,C]:=QiZ a0;let v:c<=5:=Ð
 let#[b0,b1]:=Y8 (f:=tf f 6) (m:=D.length) Í;let#[ix,Z]:=QiZ b0;let J:ix<D.length:=Ð
 let t:atI CK (ix:Int)=sO (QZ D[ix]):=xs1 J
 generalize D[ix]=one at t
 let u:=Q9 (items:=xB6) (b:=QM 9) (body:=VU) (λn o h=>∃(f:Fd) (M:â) (A a:Û),o=mS p e d cW cX vi vj A a/\h=[Q0 f,À CK,À ŏ]/\M.length<=D.length*n)
  zz5 0 (mS p e d cW cX vi vj nO nO) [Q0 (tf (tf f 6) D.length),À CK,ő] #[_,[],nO,nO,rfl,rfl,Ç] (by
   rintro j w z o h ⟨f1,M,A,a,rfl,rfl,hM⟩
   show pO z r S I;refine#[jAe,rfl,?_];let hb:D.length*j<=1505*62:=Ia Í Í
   let inner:=Ui (items:=D.map QZ) (src:=sO (.l 1)) (b:=QM 10) (body:=ZU) (λn o h=>∃(f:Fd) (M':â) (a:Û),o=jAe/\h=[Q0 f,À CK,À (M'.map QG)]/\M'.length<=M.length+n)
    (by rintro n o h ⟨f,M',a,rfl,rfl,_⟩ k hk;cases hk;rfl)
    CK 0 jyj [Q0 f1,À CK,À ŏ] #[f1,M,a,rfl,rfl,M6] (by
     rintro i w hi o h ⟨f2,M2,af,rfl,rfl,am⟩
     rw[Np]at hi;let#[q,X,rfl]:=Nf.mp hi;let al:=à X;let#[f3,M3,l3,P]:=QdQ (p:=p) (f:=f2) (PL:=D) (M:=M2) (way:=c) (one:=one) (q:=q) (wd:=r) (x3:=e) (x4:=d) (x5:=sO (Ë zz5)) v Í
     show#[mS p e d cW cX vi vj zXc xp2,rfl,_,_,ß P,f3,M3,_,rfl,rfl,Ð])
   let#[ai,h2,e2,f2,M2,Q,rfl,rfl,l2]:=inner;rw[Nq,NO]at l2;refine#[_,_,Ϭ,f2,M2,Ϸ r,Q,rfl,rfl,by rw[Nat.mul_add];lia]
   let ei:∀a (h:MH),h[1]?=sO (Ë CK)->Qm å jyj h=sO (D.map QZ,sO (.l 1),h):=λ_ h he=>by
    unfold Qm Qb;simp[VW,he]
   apply Jd yZ (QM 10) ZU _ _=_;unfold Jd;rw[ei _ _ rfl,Nj]
   show e2)
 let#[ah,h3,P,f3,M,A,a,rfl,rfl,hM]:=u;rw[Nq,NO]at hM;let hb:D.length*Wd.length<=1505*63:=Ia Í ab;refine#[M,f3,Ð,zW2];refine QrH (j:=1) (g:=[À CK,À ŏ]) (as:=[Qw p,Ţ]) (by simp[Xv,Qw]) hn ?_ rfl Qpo
 let ei:GL qj qve zv5=sO (ZO C0,nO,zv5):=by
  unfold GL;simp[Qw]
 let g1:jn<D.length:=by show On b0 b1
 let g2:(D.length:Int)<1000000:=Ð
 let et:=Qbh (f:=tf f 6) (m:=D.length) (h:=[Q0 (tf f 6),À CK]) (n:=0) g1 g2 rfl;let N:∀A a (h:MH),Qm Ģ (mS p e d cW cX vi vj A a) h=sO (xB6,nO,h):=jR;simp only[mS]at ei e1 N P;simp[J1,QD,Jd,ei,e1,ae,C,Z,et,t,N,P]
def Qh1{mt:MT}{h:MH}(e:Bz)(P:ig)(g:Th)(f:W->W):∀(rest a:Ã) (d:MSt),P d->(∀w∈rest,∀d,P d->∃c,xqd/\P c/\mt c h=sO (g w,h)/\(g w=true->qH2))->zE6->ZN fin items src b mt me rest a d h=qH3 g:=by
 intro rest
 induction rest with
 |nil=>
  show ja0 d;rw[Ò e];simp
 | cons w rest n=>
  intro a d o j q;let p:zBj:=ø q
  let#[c,t,m,s,r]:=j w NF d o;unfold ZN;rw[Ò e,t,Nj,s,Nj];cases l:g w with
  |true=>
   simp only[r l,Nj];show qy8 n m (Sa i j);simp[l]
  |false=>
   simp only;rw[n a c m (Sa i j) Í];simp[l]
def XX{b:MG}{mt:MT}{me:ME}{σ:MSt}{h:MH}(P:ig)(g:Th)(f:W->W)(hi:l9=sO (items,src,h))(c:Bz)(j:P dn)(e:∀w∈items,∀d,P d->∃a,b w d h=sO a/\P a/\mt a h=sO (g w,h)/\(g w=true->me a h=sO qv1))(i:Rz):zO4 b=qL9 g:=by
 unfold QC;rw[hi,Nj,Qh1 c P g f items [] _ j e (ĝ i)];simp
abbrev mdS(p:È)(s:Spt):uu:=if ui then nO else(p[s.part]?).bind λx=>(x.2[s.k]?).bind wdL
abbrev V1:uu->W
 |è w=>Ü w
 |none=>.non
@[simp]def QwV:pur qe=true:=by cases o<;>simp[V1]
abbrev gn(M:â)(s:Spt):Á:=if ui then[]else(M.filter λm=>m.2=vr).map (·.1)
def UL{p:È}{N:Nat}{bs ws:Á}{s:Spt}{h:MH}(v:Ğ)(u:Ϡ s):zAe:=by
 show(xE q,zd6 i u);simp only at i hk;let j:=KJ i;show yw;unfold mdS;simp only[i,Nj];cases head with
 |true=>simp[ZH,QD,Qf,j,V1]
 | false=>
  by_cases n:k=ċ
  ·let A:jc2:=Sr n
   let t:¬k<ċ:=by show N4.mpr (ī n)
   simp[ZH,QD,Qf,j,A,t,V1]
  ·let e:k<ċ:=Ð
   obtain⟨l,d⟩:∃l,jc:=#[x.2[k],Nl e]
   let f:=v.ok part x i l (A8 k d);show dQ f;let o:=U2 d;rw[d,Nj]
   by_cases m:ji2
   ·show jJh m f z
    simp[ZH,QD,Qf,j,e,o,z,wdL,V1]
   ·let:=QaM (r:=r) m;simp[ZH,QD,Qf,j,e,o,m,this,V1]
def Qa5(l:μ):jW3:=by
 show(xE c,yw);unfold gn;cases head with
 |true=>simp[Jq,QD,Qf]
 | false=>
  let e:=XX (fin:=Zf) (mi:=Qm Ù) (cp:=xtg) (b:=iG) (mt:=Qg jC3) (me:=Qb 0) (σ:=[sO Ι,zF1]) (h:=[]) (items:=iF) (src:=nO)
   (Mu i [a,b,zF1]) jua Qj5 rfl Tc Aw (λw hw i #[a,b,f]=>by
    subst f;show yJ m x;refine#[[sO zI7,sO vR,zF1],rfl,Aw,?_,λ_=>by simp[QG,Qj5]];let r:∀h,wEq vR (ġ [zV0,Â k]) h=sO (ñ (eqW vR zI8),h):=λh=>Qrl QbR (QbR (q:=zD1)) R7 (ja (QbV (q:=zD1)))
    simp[Qf,QG,Wz,HT.sIx,r]) (Sq xpe)
  let p:((M.map QG).filter jua).map Qj5=((M.filter λm=>qRc).map (·.1)).map W.str:=by
   clear e l
   induction M with
   |nil=>rfl
   | cons m M d=>
    let o:eqW vR zI8=decide (m.2=zD1):=by
     show ϋ w a b m;rw[Ew];simp[QZ,Qg4,Qge,Qmy,QsQ,Ql9,QbF,Qie];lia
    rw[Nw,E7,E7];simp only[QG,o]at d ⊢
    by_cases j:qRc
    ·simp[j]at d ⊢;show#[rfl,d]
    ·simp[j]at d ⊢;show d
  show jg0 p e;simp[Jq,QD,Qf]at e ⊢;rw[e];rfl
section
variable{ι κ:Type}[zS3]
abbrev wa(M:xjh)(q:κ):ä ι:=(M.filter λm=>m.2=q).map (·.1)
def W8{q:κ}:wa (M++[m]) q=if m.2=q then zl6++[m.1]else zl6:=by
 unfold wa;rw[DM,NU]
 by_cases h:m.2=q<;>simp[h]
structure WB(M:xjh)(G:zSg)(Ls:List (HP ι)):Prop where
 nk:(G.map (·.1)).Nodup
 ni:(G.map (·.2)).Nodup
 at_:∀g∈G,zP2 M
 all:∀m∈M,m.2∈G.map (·.1)
def Qbz{G:zSg}(b:(G.map (·.1)).Nodup)(a:g∈G)(c:g.1=q):jzf=sO g:=by
 induction G with
 |nil=>cases a
 |cons x G d=>
  rw[Nw,Ei]at b;rw[NV]
  show Ŧ a
  ·simp[c]
  ·let:¬x.1=q:=λz=>b.1 (by rw[z,<-c];show EO a);show(xf2,d b.2 a)
def WC{G:zSg}(h:q∉G.map (·.1)):jzf=nO:=by
 rw[Dx];intro g a;show Hw h (by rw[<-z];show EO a)
def Qej(I:BX M){q:κ}(h:q∉G.map (·.1)):zl6=[]:=by
 unfold wa;rw[Oc,DG];intro m a;show Hw h (by rw[<-z];show I.all m a)
def WB.step(I:BX M)(m:ι×κ) :
  (∃g∈G,g.1=m.2/\g.2<Ls.length/\WB (M++[m]) G ((Ls++[[]]).set g.2 (wa M m.2++[m.1]))/\(Ls++[[]])[g.2]?=sO (wa M m.2)) \/
  (m.2∉G.map (·.1)/\WB (M++[m]) MW ((Ls++[[]]).set Ls.length [m.1])):=by
 by_cases hk:m.2∈G.map (·.1)
 ·let#[g,n,q]:=Ny.mp hk;let t:=I.at_ g n;let r:=à t;show Bo #[g,n,q,r,#[I.nk,I.ni,Ÿ f,Ÿ f],by rw[NC r,t,q]]
  ·let d:=I.at_ x f;let c:=à d
   show Ě e x g
   ·subst e;rw[E6 (by simp;show vX c),W8,if_pos q.symm,q]
   ·let ne:g.2≠x.2:=λz=>e (by
     show qo7;let:=(Il (i:=i) (j:=j) (h₀:=ø w) (h₁:=ø v) I.ni).mp (by simp[ei,u,z]);show qOa)
    let l:¬m.2=x.1:=λz=>e (by
     show qo7;let:=(Il (i:=i) (j:=j) (h₀:=ø w) (h₁:=ø v) I.nk).mp (by simp[ei,u,<-z,q]);show qOa)
    rw[EV ne,NC c,d,W8,Õ l]
  ·show η f h
   ·show I.all x h
   ·rw[ĳ h];show hk
 ·show AT #[hk,#[?_,?_,Ÿ f,Ÿ f]]
  ·rw[NU,Eh];show#[I.nk,Ç,λa y b s=>by show j6 s;show λz=>hk (S5 z y)]
  ·rw[NU,Eh];refine#[I.ni,Ç,ś a y b s];show(j6 s,Ż g n y);let:=à (I.at_ g n);show NK this
  ·show η f h
   ·let d:=I.at_ x h;let c:=à d;let l:¬m.2=x.1:=λz=>hk (by rw[z];show EO h);rw[EV (EB c),NC c,d,W8,Õ l]
   ·rw[ĳ h];apply((Ls++[[]]).set Ls.length [m.1])[Ls.length]?=sO (wa (M++[m]) m.2);rw[E6 Å,W8,Ĥ,Qej I hk];rfl
  ·show η f h
   ·let:=I.all x h;show(zh5,.inl this)
   ·rw[ĳ h];simp
#print"-"
def QwZ:eqW (Yi a) (Yi b)=gp:=by
 show(ĉ f e a,ĉ d c b);simp only[Yi,Qg4,Qge,Qmy,QsQ,Ql9,QbF,Qie,Iu,Prod.mk.injEq];rw[Ew];simp only[N3,beq_iff_eq,decide_eq_true_eq];lia
def QpJ:∀{a b:î},Kf (a.map Yi) (b.map Yi)=gp
 |[],[]=>zZ8
 |[],_::_=>zZ8
 |_::_,[]=>zZ8
 |x::xs,y::c=>by
  rw[Nw,Nw,Kf,QwZ,QpJ,Ew];simp
def Qr1:eqW zk5 jk5=gp:=by
 show(Γ f h j m a,Γ e g i l b);simp only[Qf,Qg4,Qge,Qmy,QsQ,Ql9,QbF,Qie,Iu,QpJ];rw[Ew];simp only[N3,beq_iff_eq,decide_eq_true_eq,Spt.mk.injEq];constructor
 ·show qf9
 ·show qf9
section
variable{bs ws:Á}{p:È}
def QbX{met st out:Æ}(d:fX):(∀s∈met,∀t∈Ha,t∈met\/t∈st)->∀s∈out,∀t∈Ha,iP:=by
 induction d with
 |done=>intro h s c t a;rcases h s c t a with z|z;show z;cases z
 | @skip met st out s n h d b=>
  show qV0
  show xnf
  show pK
  ·show Ŧ z
   ·show ß h
   ·show ô z
 | @add met st out s n h d b=>
  show qV0
  rcases NI.mp hu with hu|hu
  ·show xnf
   ·show ß pI
   ·show Ŧ z
    ·show ß Å
    ·show ô jd9
  ·rw[Nz.mp hu]at a;show ô MP
def QnQ{met st out:Æ}(d:fX):(∀s∈met,B8)/\∀s∈st,B8:=by
 induction d with
 |done=>show#[iH,λ_ h=>B0 h]
 |@skip met st out s n h d b=>show#[b.1,λt a=>by show(Ŧ a,b.1 _ h,b.2 t a)]
 |@add met st out s n h d b=>show#[λt a=>b.1 t MP,λt a=>by show(Ŧ a,b.1 _ Å,b.2 t (NS _ a))]
structure Al(p:È)(out:Æ):Prop where
 few:qUf
 pos:zb5
 nd:out.Nodup
 rc:∀s∈out,ϯ
 cl:∀s∈out,∀t∈Ha,iP
 s:qce
 nx2:∀s∈out,kt<=2/\(∀h:MH,qCa=jQ4)/\∀h:MH,qra=jQ4
 nxR:∀s∈out,Qv mF []=sO (Ţ,MD)
abbrev ixS(out:Æ)(t:Spt):Nat:=zZ9
abbrev sq(out:Æ)(q:Nat):Spt:=out.getD q sp0
def UE(h:Az):out[q]?=sO Κ:=by
 unfold sq;rw[EH,Nl h];rfl
def Vs(h:Az):HL q∈out:=NN.mpr #[q,UE h]
def Wg(h:iP):vM<out.length:=Oo h
abbrev Ed(p:È)(out:Æ)(q:Nat):î:=(nx p Κ).map λt=>(q,vM)
abbrev Eg(p:È)(out:Æ)(n:Nat):î:=(List.range n).flatMap (Ed p out)
def Qky:Eg p out (n+1)=Eg p out n++Ed p out n:=by
 unfold Eg;rw[FQ];simp
def Ge(A:é)(h:xng):(Eg p out n).length<=2*n:=by
 let:=Qbc (f:=Ed p out) (n:=2) (List.range n) λq a=>by
  unfold Ed;rw[Nq];show(A.nx2 _ (Vs (by let:=Ep.mp a;show Ng this h))).1
 rwa[Fl]at this
def Qbe[zS3]{M:List (a×κ)}:xf3<=M.length:=by show xbe
abbrev Q2(q:Nat):W:=Â q
@[simp]def Quy{l:Ì}:Zm dM=true:=by
 induction l with
 |nil=>rfl
 |cons n l a=>simp[Q2];show a
def QvF{q:Nat}(h:Az):qs8=sO jk6:=xv1 h
#print"-"
abbrev trQ(q:Pl):Tr:=.t rD
@[simp]def UG:nrm Tg=sO sk:=by
 apply YW 8 (ġ zt6)=_;rfl
def UK(h:trQ a=trQ b):a=b:=by
 unfold trQ at h;injection h with h
 simp at h;show Prod.ext (by let:=h.1;lia) (by let:=h.2;lia)
noncomputable abbrev Gs:=List (Pl×Nat)
abbrev dG(G:Gs):ϙ:=G.map λg=>(QZ g.1,Ä zic)
abbrev hG(G:Gs)(Ls:List zd2):MH:=Ŏ Hv::Ls.map λl=>yk l
def Qlr:Xi Hv sk=(G.find? zt2).map λg=>Ä zic:=by
 unfold Xi dG
 induction G with
 |nil=>rfl
 |cons g G a=>
  show jLc
  ·let:¬trQ g.1=trQ q:=ϴ h (UK z);simp only[UG,F3,this,h,decide_false];show a
noncomputable abbrev yS(mn:W)(x2 x3:Û):MSt:=[sO mn,sO ç,x2,x3]
def Qda:qCb=zL7:=xB7
def Qf3:zPj=dE:=xB7
def QiR:(hG G Ls).set (i+1) (Ë (sW l++[Ü w]))=hG G (Ls.set i (l++[w])):=by
 simp[hG,O4]
def Qlt(h:zcg):(hG G Ls)[i+1]?=sO (qG l):=by
 show zGd qh
def Qcl(I:BX M)(m:Mn)(f:G.length<=100000)(y:μ) :
  ∃p b,WB (M++[m]) p b/\p.length<=jb0/\b.length=dE/\ZV qe6 kN=sO (ì qe6 (hG p b)):=by
 show zJ4 t M (Nh (by show xbe) y);let A:∀G Ls,qnc:=Ŗ;let c:∀G Ls (h:0<zPj),(hG G Ls)[0]=Ŏ Hv:=jR;let r:∀G Ls,Kb kN ç=sO Hv:=Ŗ
 let B:Vd [] kN=sO (Ä bX,zL7):=by
  apply sO (W.ref zPj,qCb)=_;rw[Qf3,Qda]
 rcases I.step m with⟨g,z,v,x,o,e⟩|⟨hk,o⟩
 ·refine#[G,_,o,M6,Ç,?_]
  let j:jw2=sO (Ä zic,zL7):=by
   unfold QmW;simp only[r,UG,Nj,Qlr,Qbz I.nk z v,N0]
  let d:=Qlt (G:=G) e;let a:=QiR (G:=G) (Ls:=uF) (i:=g.2) (l:=wa M m.2) (w:=m.1);simp[Qf3,Qda,j,d,a,t,tyW,c]
 ·refine#[_,_,o,Ç,Ç,?_];let u:(dG G).length<sizeLine:=Ni (by simpa[dG]using f) Ñ
  let j:jw2=sO (Ä bX,hG MW TQ):=by
   unfold QmW;simp only[r,UG,Nj,Qlr,WC hk,LS];unfold J3;simp only[A,UG,Nj];rw[Ò u]
   let:US Hv (trQ m.2) vR (ý bX)=dG MW:=by
    unfold US;rw[Qlr,WC hk];simp[dG]
   show Ο
  let d:=Qlt (G:=tY m) (Ls:=uF) (i:=Ls.length) (l:=[]) Å;let a:=QiR (G:=tY m) (Ls:=uF) (i:=Ls.length) (l:=[]) (w:=m.1);simp only[Dg,Dj]at a d;let s:jc3:=õ
  let n:∀(h:dE<(hG MW TQ).length),(hG MW TQ)[dE]=ő:=d9 d;simp[Qf3,Qda,j,n,a,s,tyW,c]
abbrev dP(M:â)(P:B7):ϙ:=P.map λq=>(QZ q,À zKj)
def Qsj(a:∀m∈M,zjb):(Xi uG sk).getD zej=À zKj:=by
 by_cases h:q∈P
 ·let:Xi uG sk=sO (Ë zKj):=by
   clear a;unfold Xi dP
   induction P with
   |nil=>cases h
   |cons x P b=>
    rw[Nw,NV]
    show qY e x q
    ·let:¬trQ x=trQ q:=ϴ e (UK z);simp only[UG,F3,this,decide_false];show jVd
  show Ο
 ·let f:zl6=[]:=by
   show qj5 m
  let:Xi uG sk=nO:=by
   unfold Xi dP;rw[D4,Dx];show Mf d c;show Hw h (by rw[<-UK z];show c)
  rw[this,f];rfl
def QaJ(t:μ):∃P:B7,(∀m∈M,zjb)/\∀h:MH,Vy [À ŏ] h=sO (ģ,h++[Ŏ uG]):=by
 let d:=Q9 (items:=iF) (b:=QW [2,3]) (body:=ZV) (λn r h=>∃(G:Gs) (Ls:List zd2) (p o:Û),r=yS Ι p o/\h=jl6/\BX (M.take n)/\xwe)
  ŏ 0 ql1 (hG [] []) #[[],[],nO,nO,rfl,rfl,jH2,NA _] (by
   rintro j w u r h ⟨G,Ls,p,o,rfl,rfl,I,a⟩
   show pO u m s f;let#[c,q,E,z,_,e]:=Qcl (mn:=À ŏ) I m (Nt (Ng (Ni a f) t)) (by rw[EK];show Nt (Ng (Ni qHf f) t));refine#[yS Ι xp3 xp4,rfl,_,_,ß e,c,q,_,_,rfl,rfl,?_,SK z (NX a _)];rw[Ii,s]
   show E)
 let#[y,H,l,G,Ls,p,o,rfl,rfl,I,a]:=d;show qbe;apply box frR Q6 _ _=_;show(qE6,fG);let ei:∀(h:MH),Qm Ù ql1 h=sO (iF,nO,h):=ſ
 let e:Q6 [À ŏ] []=sO (Ţ,jl6):=by
  simp only[yS,hG]at l ei;simp[dG]at l;simp[Q6,QD,Jd,X4,ei,l,hG,dG]
 show m8
 let key:∀(c:Gs),(∀g∈c,zP2 M)->ths zzg ((dG c).map (·.2))=sO ((dP M (c.map (·.1))).map (·.2)):=by
  intro c
  induction c with
  |nil=>intro _;rfl
  | cons g c i=>
   intro v;let:=i (π x A v);unfold dG dP at this ⊢;rw[Nw,Nw,ths,this];let D:=Qlt (G:=G) (v g NF)
   let:th zzg (ý zic)=sO (Ë qnd):=by
    show(zCe B (res (nP [0]) kN 2) qnd,SS);simp[Vf,D,B]
   show Ο
 let k:=xB8
 let hd:thO zzg (Ř Hv)=sO (.dct (dP M (G.map (·.1)))):=by
  show xif
  let:((dG G).map (·.1)).zip ((dP M (G.map (·.1))).map (·.2))=dP M (G.map (·.1)):=by
   unfold dG dP;clear k key e l ei I a
   induction G with
   |nil=>rfl
   |cons g G i=>show(Tp i,i)
  simp[this]
 let C:qnc:=rfl;show qE7 C
section
variable{bs ws:Á}{p:È}{out:Æ}
abbrev plW(s:Spt):W:=if ui then .non else QZ vr
@[simp]def QuX:pur (plW s)=true:=by unfold plW;split<;>simp
def UI:ZX [Qf s] h=sO (plW s,h):=by
 show(yw,xE a);cases head<;>simp[Xk,QD,Qf,plW,QZ]
abbrev lnO(p:È)(s:Spt):Option Ln:=if ui then nO else(p[s.part]?).bind λx=>zg9
abbrev lnW(p:È)(s:Spt):W:=match lnO p s with
 |è l=>QR l
 |none=>.non
@[simp]def QuC:pur (lnW p s)=true:=by unfold lnW;split<;>simp
def QtF:BK=(lnO p s).bind wdL:=by
 unfold mdS lnO;split
 ·rfl
 ·cases p[s.part]?<;>rfl
def Qke(d:Ϡ s):qC8=sO (lnW p s,h):=by
 show zd6 a d;unfold lnW lnO;rw[a,Nj];cases c:s.head with
 |true=>show Yy a (ŧ c)
 |false=>
  by_cases b:s.k=ċ
  ·rw[NY (ī b)];show Yy a (ü b)
  ·let e:zg9=sO (x.2[s.k]' Í):=Nl Í;rw[e];show GD a c e
def KW(n:Ğ)(m:Ϡ s):Jw [lnW p s] h=sO (V1 xt,h):=by
 show(yw,zd6 j m);rw[QtF];unfold lnW;cases e:lnO p s with
 |none=>simp[Z7,QD,V1]
 | some l=>
  unfold lnO at e;show d8 e
  ·rw[j,Nj]at e;let d:=n.ok _ x j l (NN.mpr #[_,e]);show dQ d;rw[Nj];let i:qx3:=rfl
   by_cases f:ji2
   ·show jJh f d o
    simp[Z7,QD,i,o,wdL,V1]
   ·let:=QaM (r:=r) f;simp[Z7,QD,i,f,this,V1]
abbrev nm(Z:zR1):ϙ:=Z.map λq=>(zSh,B5 q)
def QjJ:Xi (nm Z) tN=(Z.find? (u0 q s)).map λq=>B5 q:=by
 unfold Xi nm
 induction Z with
 |nil=>rfl
 |cons q Z a=>
  show xp e q s
  ·simp[e,U7]
  ·let:¬xv2=trS s:=ϴ e (Qf1 z);show xnh U7 e
def QtE:∀(r a:zR1),((a++r).map (·.1)).Nodup->mgQ (nm a) (r.map qge)=nm (a++r):=by
 intro r
 induction r with
 |nil=>
  intro a _;simp[mgQ]
 | cons q r c=>
  intro a b
  let d:q.1∉a.map (·.1):=λz=>by
   rw[NU,Eh]at b;show b.2.2 _ z q.1 Å rfl
  let e:US (nm a) (trS q.1) (Qf q.1) xv3=nm xpf:=by
   unfold US;rw[QjJ,WC d];simp[nm]
  unfold mgQ;rw[Nw,Yae,e];let:=c xpf g6;unfold mgQ at this;rw[this];simp
def QhD:∀(out:Æ) (k:Nat),iP->((out.zipIdx k).find? (u0 q t))=sO (t,k+vM):=by
 intro out
 induction out with
 |nil=>
  intro _ h;cases h
 | cons s out a=>
  intro k h;unfold ixS;rw[List.zipIdx_cons,NV,List.idxOf_cons]
  show qY e s t
  ·let b:(s==t)=false:=ø e
   let:=a (k+1) xHh;simp only[e,decide_false,this,b,cond_false];unfold ixS;rw[show k+1+zZ9=k+(zZ9+1) by show jh0]
def QnX:∀(Z:zR1),prQ (Z.map zpg)=sO (Z.map qge):=by
 intro Z
 induction Z with
 |nil=>
  show rfl
 |cons q Z a=>
  rw[Nw,prQ,U7,Nj,a];rfl
def QoA(b:h[n]?=sO (Ř ki))(a:iP):Vu Ε HC h=sO (Â (lQ t),h):=by
 unfold Vu;let:r9=sO ki:=c5 b
 rw[this,Nj,U7,Nj,QjJ,QhD out 0 a];simp
def We(a:iP):HL (lQ t)=t:=by
 let b:=UE p4;rw[Nl p4]at b;let c:out[vM]' p4=t:=Ybh p4;show(NZ b).symm.trans c
abbrev stW(p:È)(out:Æ)(e:ϩ):W:=Î [Ti e,qlc,B5 e,plW jX8]
@[simp]def Qr5{l:î}:Zm (l.map gZ)=true:=by
 induction l with
 |nil=>rfl
 |cons e l a=>simp[stW];show a
noncomputable abbrev tS(p:È)(out:Æ)(x4 x5 x6 x7:Û):MSt:=[ď,M7,sO ç,Ν,x4,x5,x6,x7]
noncomputable abbrev tH(p:È)(out:Æ)(L:î):MH:=[Ŏ ki,À (L.map gZ)]
set_option backward.eqns.nonrecursive false in
abbrev swp:W->W
 |Î [a,b]=>Î [b,a]
 |w=>w
def UM(A:é)(h:MH):Jk sD h=sO (À mI,h):=by
 show zij;let f:(ZO ε).length=out.length:=xB5
 let e0:∀c:MSt,c[1]?=sO (sO (Ë ε))->xej zFg (í pX) c=sO (jn1,[]):=by
  intro c D
  let x:Jf AW c []=sO (ZO ε,nO,[]):=by
   unfold Jf Qa Qb;rw[D];rfl
  let Z:=Qjg (fin:=Zf) (mi:=Jf AW) (cp:=zVj) (b:=iG) (me:=qg0) (σ:=c) (h:=[]) (items:=ZO ε) (λB=>B.length=2) swp x rfl (λw hw B C=>by
   unfold ZO at hw;show A5 q
   match B,C with
   |[a,b],_=>show#[[sO xv3,pv],rfl,rfl,by simp[swp]]) (by rw[f];show JC (Nt qvf))
  rw[Z]
  let:(ZO ε).map swp=out.zipIdx.map zpg:=by
   unfold ZO;rw[List.zipIdx_map];simp[swp,Da]
  show Ο
 let e1:Xd [jn1] []=sO (Ţ,[Ŏ ki]):=by
  unfold Xd;simp only[lsW,Nj,QnX];show Ŵ (by rw[Nq,FT];show Nt qvf);let:=QtE out.zipIdx [] (by rw[Dj,List.zipIdx_map_fst];show A.nd);rw[show nm []=[]from rfl]at this;show Ο
 let r:=Q9 (items:=ZO ε) (b:=QW [4,5]) (body:=Ki) (λn c h=>∃(o m l d:Û),c=tS p out o m l d/\h=pF (Eg p out n))
  (ZO ε) 0 (tS p out nO nO nO nO) (tH p out []) qE8 (by
   rintro j w z c h ⟨o,m,l,d,rfl,rfl⟩
   rw[NO]at *;let e:=à z;rw[f]at e;unfold ZO at z;rw[Np,Ft,Np,UE e]at z;obtain rfl:W.tup [xrc,Qf zK]=w:=ø z
   refine#[tS p out fC zJ6 l d,rfl,?_];let E:=Vs e;let#[n2,en,_]:=A.nx2 _ E
   let inner:=Q9 (items:=qud) (b:=QM 7) (body:=Kg) (λn c h=>∃(d:Û),c=gO d/\h=pF (m7 n))
    ((nx p zK).map Qf) 0 jUh qrc #[d,rfl,Ç] (by
     rintro i w x c h ⟨H,rfl,rfl⟩
     rw[NO,Np]at *;show A4 t I x;let u:=A.cl _ E t (A8 i I);refine#[gO vQ,rfl,gO vQ,_,Ϭ,_,rfl,rfl];let U:(m7 (i+1))=(m7 i)++[(j,vM)]:=ja6 I
     rw[U];let S:=Ge A (n:=j) jjb;generalize hL:(m7 i)=L;let F:L.length<=600000:=by rw[<-hL,NH,Nq,EK];lia
     let N:xH:=uc F;let en:=QoA (h:=pF L) (n:=0) rfl u;let X:=We u
     simp[en,UI,N,stW,X])
   let#[J,h2,y,H,rfl,rfl]:=inner;show pe y;refine#[gO H,pF (Eg p out (j+1)),Ϭ,_,_,_,_,rfl,rfl];rw[Qky]
   let ei:Qm qef jUh qrc=sO (qud,nO,pF qG8):=by
    unfold Qm;simp[en];rfl
   let Y:∀h,ZY [Qw p,Qf zK] h=sO (lnW p zK,h):=λh=>Qke (A.rc _ E).v
   simp[Jd,Y,ei,y,Ed])
 let#[M,h',y,o,m,l,d,rfl,rfl]:=r;rw[f,NO,show tH p out []=[MO.dct ki,MO.lst []]from rfl]at y;let x:∀o m l d h,Jf AW (tS p out o m l d) h=sO (ZO ε,nO,h):=tL;refine Yv (j:=1) (g:=pF Cj) Å ?_ rfl Å;let Q:=e0 [ď,M7,nO,nO,nO,nO,nO,nO] rfl;let P:=x nO nO nO nO;simp[Xe,QD,Jd,A.s,Q,e1,P,y]
#print"-"
section
variable{N:Nat}{bs ws:Á}{p:È}
def QwA(w:Ğ)(h3:dF)(h:ϯ):(s.way=[]/\s.part=0)\/(∃x j l,zeb/\qRd/\s.part<=2/\s.part≠0/\xuf/\AI) \/
  ∃x j l y i m,zeb/\p[1]?=sO y/\qRe/\s.part=2/\xuf/\AI/\qI0:=by
 let#[y,C,_]:=h.v.ex;let Z:=à C;generalize hw:s.way=way at *;generalize E:s.part=q at *;let c:=h.c;rw[hw,E]at c;cases c with
 |nil=>show ß ζ
 | @snoc r _ i k _ x l b L f o F=>
  let#[g1,g2]:=QdU w f (Ej o) F;cases L with
  |nil=>show ÿ (ϵ #[x,k,l,f,b,Ė,Ė,o,g2])
  | @snoc Q _ Y B _ z A g J a d u=>
   let#[g3,I]:=QdU w a (Ej d) u;cases J with
   |nil=>
    let H:i=1:=Ė
    subst H;show ÿ (ü #[z,B,A,x,k,l,a,f,by rw[b,g];rfl,Ė,d,I,o,g2])
   |@snoc P _ X U _ M S D c3 e n t=>
    let#[g5,_]:=QdU w e (Ej n) t;omega
abbrev rkD(L:Ġ)(j:Nat):Nat:=dcn (L.take j)
def Uy(h:L[j]?=sO l)(hd:AI):xf4=iR+1:=by
 unfold rkD;rw[E3,h,FS,UO,hd];rfl
def Qbl(h:i<=j):rkD L i<=iR:=by
 show Yaw (List.take_sublist_take_left h)
def QfS(h:L[j]?=sO l)(hd:AI):iR<dcn L:=by
 let b:=Uy h hd
 let a:xf4<=dcn L:=by
  show Yaw xx4
 show Ng (Ng B9 (ī b)) a
def QaP(hi:L[i]?=sO l)(c:AI)(a:L[j]?=sO m)(b:Yd m=true)(e:rkD L i=iR):i=j:=by
 rcases Lg i j with z|z|z
 ·let:=Qbl (L:=L) (zda i j);rw[Uy hi c]at this;lia
 ·show z
 ·let:=Qbl (L:=L) (zda j i);rw[Uy a b]at this;lia
abbrev Qmd(s:Spt):Nat:=jF2
def Qnc(s:Spt):Qmd s<=1:=by unfold Qmd;split<;>exact õ
abbrev Qgb(L:Ġ)(s:Spt):Nat:=match s.way with
 |[]=>0
 |[(_,j)]=>2*iR+s.part
 |(_,j)::_=>5+iR
def QmB(h:Qmd s=Qmd t):xn9:=by
 unfold Qmd at h;cases a:s.head<;>cases b:t.head<;>simp[a,b]at h ⊢
def QiU{m a b c d:Nat}(h1:b<m)(h2:d<m)(e:a*m+b=c*m+d):a=c/\b=d:=by
 let h:(b+a*m)/m=a:=by rw[YaG _ _ (Ybu h1),YbJ h1,NO]
 let g:(d+c*m)/m=c:=by rw[YaG _ _ (Ybu h1),YbJ h2,NO]
 rw[D6 _ b,D6 _ d]at e;let f:a=c:=by rw[<-h,e,g]
 subst f;show#[rfl,Nat.add_right_cancel e]
def QpI{m n a b:Nat}(h1:a<n)(h2:b<m):a*m+b<n*m:=
 Ng (NW h2 _) (by rw[<-O5];show L5 m h1)
def Qpa{s t:Spt}(h1:xB9)(h2:xni)(b:s.k=t.k)(a:xn9):s=t:=by
 show(Bi s t,Bi h1 h2,Bi b a);rfl
def Qlk(B:Ğ)(C:dF)(t:TwA p)(c:p[0]?=sO a)(h:ϯ) :
  (pp a=0/\s.way=[]/\s.part=0)\/(∃j l r,pp a=2*r+s.part/\qRd/\r=jf8/\r<2/\0<s.part/\s.part<3/\xug/\AI) \/
   ∃j l i m y,pp a=5+jf8/\jf8<2/\qRe/\s.part=2/\xug/\AI/\p[1]?=sO y/\rkD y.2 i=0/\qI0:=by
 let u:=(t.1 a c).2.1
 rcases QwA B C h with⟨b,f⟩|⟨x,j,l,n,b,f,o,e,d⟩|⟨x,j,l,q,A,z,n,g,b,f,e,d,w,v⟩
 ·show đ #[zM2,b,f]
 ·show(ð c n,ÿ (ϵ #[j,l,_,zM2,b,rfl,xig,DK o,F4 f,e,d]))
 ·show ð c n;let D:=(t.2 0 q g).2.1;show ÿ (ü #[j,l,A,z,q,zM2,xig,b,f,e,d,g,Nat.eq_zero_of_le_zero (Ld (Ng (QfS w v) D)),w,v])
def cl5{r q n:Nat}(h:r<2)(a:q<3):2*r+q≠5+n:=Ė
def cl4{r q:Nat}(h:r<2)(a:q<3):2*r+q<7:=Ė
def cl3{r q a b:Nat}(f:0<q)(c:q<3)(g:0<b)(d:b<3)(e:2*r+q=2*a+b):r=a/\q=b:=Ė
def Qql(H:Ğ)(I:dF)(F:TwA p)(a:p[0]?=sO E)(h:ϯ)(h':lG)(e:pp E=Qgb E.2 t):xB9/\xni:=by
 rcases Qlk H I F a h with⟨x,v,c⟩|⟨j,l,r,x,v,c,D,u,q,C,B⟩|⟨j,l,i,m,y,x,v,c,D,u,q,C,B,S,Q⟩<;>rcases Qlk H I F a h' with⟨w,o,b⟩|⟨L,J,X,w,o,b,A,n,g,f,z⟩|⟨L,J,Z,Y,U,w,o,b,A,n,g,f,z,P,M⟩<;>rw[x,w]at e
 show Ħ #[v.trans o.symm,c.trans b.symm]
 ·show absurd e.symm (EB (Ng n uj))
 ·show č (Ę e (D6 _ _)) (nofun)
 ·show č e (EB (Ng u uj))
 ·let#[d,q2]:=cl3 u q n g e;rw[c,b]at d;show#[by rw[v,o,QaP C B f z d],q2]
 ·show č e (cl5 D q)
 ·show č (e.symm.trans (D6 _ _)) (nofun)
 ·show absurd e.symm (cl5 A g)
 ·let d:=QaP u q n g (Nat.add_left_cancel e);show ð C f;rw[c,b,d,QaP S Q P M (Hl B z)];show#[rfl,D.trans A.symm]
def QpN(f:Ğ)(g:dF)(e:TwA p)(b:p[0]?=sO d)(h:ϯ):pp d<7:=by
 rcases Qlk f g e b h with⟨a,_⟩|⟨j,l,r,a,c,t,o,q,n,_⟩|⟨j,l,i,m,y,a,c,_⟩<;>rw[a]
 ·decide
 ·show cl4 o n
 ·show NW c 5
def Qob(m:Ğ)(r:dF)(g:TwA p){L:Æ}(u:L.Nodup)(h:∀s∈L,ϯ):L.length<=200:=by
 obtain⟨t,d⟩:∃x,zeb:=#[_,Nl (DD.mpr m.ne)]
 let l:∀s,ϯ->s.k<13:=λs j=>by
  let#[y,f,hk,_]:=j.v.ex;cases e:s.part with
  |zero=>rw[e]at f;show F4 (Nh hk (g.1 y f).1)
  |succ i=>rw[e]at f;show F4 (Nh hk (Nh (g.2 i y f).1 Ñ))
 letI Qgi:=λs:Spt=>(pp t*13+s.k)*2+Qmd s
 let hL:∀s,Qmd s<2:=λs=>F4 (Qnc s)
 let:=Ve 182 (L.map Qgi) (by
  show ji1;refine FH (λ{a b} q o ne e=>ne ?_) u;let#[E,D]:=QiU (hL a) (hL b) e;let#[C,B]:=QiU (l a (h a q)) (l b (h b o)) E;let#[A,z]:=Qql m r g d (h a q) (h b o) C
  show Qpa A z B (QmB D)) λc w=>by
  show(Ż s j w,QpI (n:=91) (QpI (n:=7) (QpN m r g d (h s j)) (l s (h s j))) (hL s))
 rw[Nq]at this;show Nh this Ñ
#print"-"
section
variable{bs ws:Á}{p:È}{out:Æ}{M:â}
abbrev aW(p:È)(out:Æ)(M:â)(q:Nat):W:=Î [Â q,À (mH Κ),V1 zB4]
@[simp]def Qte{l:Ì}:Zm eN=true:=by
 induction l with
 |nil=>rfl
 |cons e l a=>simp[aW];show a
noncomputable abbrev Gn:=î
abbrev dI(G:Gn):ą W:=G.map λg=>(.inl (g.1:Int),Ä uL)
abbrev hI(p:È)(out:Æ)(M:â)(P:B7)(G:Gn)(Ls:rE):MH:=Ŏ uG::ϲ BU::Ls.map λl=>À eN
def Qb2{q:Nat}:Kc BU jre=(G.find? zt2).map λg=>Ä uL:=by
 unfold Kc dI
 induction G with
 |nil=>rfl
 |cons g G a=>
  show jLc
  ·let:¬(Sum.inl (g.1:Int):Key)=vJ q:=ϴ h qya;simp only[this,h,decide_false];show a
variable{P:B7}
def WN:fj=Ϛ:=xBa
def Qjy:tj++[ő]=qte:=xBa
def Qjj:(hI p out M P G Ls).set (i+2) (Ë (l.map PK++[aW p out M q]))=hI p out M P G qzc:=by
 simp[hI,O4]
def Qlb(h:zcg):(hI p out M P G Ls)[i+2]?=sO (Ë eN):=by
 show zGd eN
noncomputable abbrev qT(p:È)(out:Æ)(M:â)(x5 x6 x7 x8 x9:Û):MSt:=[ď,sO Ι,M7,sO ç,Ν,x5,x6,x7,x8,x9]
def QrN:ř s=if ui then[]else wa M vr:=rfl
def Qon(b:∀m∈M,zjb)(h0:h[0]?=sO (Ř uG)):QaZ ç [plW s,ő] h=sO (À (mH s),h):=by
 let a:Kb h ç=sO uG:=c5 h0
 rw[QrN];unfold plW;cases s.head with
 |true=>
  apply(Kb h ç).map _=_;rw[a];rfl
 |false=>
  simp only[Du,if_false];apply Qd7 ç [QZ vr,ő] h=_;unfold Qd7;simp only[a,UG,Nj,N0,Qsj b]
def QkC(hg:Ğ)(A:é)(hP:∀m∈M,zjb){L:î}(I:BX L)(e:ϩ)(J:e.1<out.length)(B:qXg)(hl:qXh) :
  ∃E o t,WB (L++[e]) E o/\E.length<=jb0/\VO (jT6 x9) nv=sO (ì (jT6 t) (hI p out M P E o)):=by
 let hs:=Vs J;show zJ4 Z L (Nh Qbe hl);let Q:∀h,ZX [Qf zt] h=sO (plW zt,h):=λh=>UI;let em:jW4:=λh=>KW hg (A.rc _ hs).v;let S:=Qon hP (s:=uv) (h:=tj) rfl;let X:=QvF J;let U:∀G Ls,Ye nv vO=sO BU:=Ŗ;let n:∀G Ls (h:0<fj),(hI p out M P G Ls)[0]=Ŏ uG:=jR;let j:∀G Ls (h:1<fj),(hI p out M P G Ls)[1]=ϲ BU:=jR;let H:∀G Ls,0<fj:=qea
 let F:∀G Ls,1<fj:=qea
 rcases I.step e with⟨g,w,hq,u,D,x⟩|⟨hk,D⟩
 ·refine#[G,_,jJi,D,M6,?_]
  let C:jwd=sO (Ä uL,qte):=by
   show nL U;rw[Qb2,Qbz I.nk w hq];rfl
  let f:=qsa x;let d:∀(h:qji),(hI p out M P G TQ)[g.2+2]=À ((wa L e.2).map PK):=d9 f;let c:=Qjj (p:=p) (out:=out) (M:=M) (P:=P) (G:=G) (Ls:=uF) (i:=g.2) (q:=e.1) (l:=wa L e.2);let r:qji:=by rw[WN];simp;show vX u
  rw[jte]at c;simp[WN,Qjy,X,Q,S,C,f,d,c,Z,em,tyW,n,j,H,F,r]
 ·refine#[_,_,jJi,D,Ç,?_];let hz:qK3:=jFi B
  let C:jwd=sO (Ä xi,hI p out M P zoc TQ):=by
   show nL U;rw[Qb2,WC hk];apply zE7;rw[if_pos hz]
   let:GP BU (.inl (e.2:Int)) zwb=dI zoc:=by
    show jNe
    ·simp[dI];intro a b y z;show hk (Sy #[_,y,by apply a=e.2;lia])
   show Ο
  let f:=Qlb (p:=p) (out:=out) (M:=M) (P:=P) (G:=tY e) (Ls:=uF) (i:=Ls.length) (l:=[]) Å;let c:=Qjj (p:=p) (out:=out) (M:=M) (P:=P) (G:=tY e) (Ls:=uF) (i:=Ls.length) (q:=e.1) (l:=[]);simp only[Dg,Dj]at c f;rw[jte]at c;let Y:jc3:=õ
  let d:∀(h:Ϛ<qn2),(hI p out M P zoc TQ)[Ϛ]=ő:=d9 f;let r:Ϛ<qn2:=by rw[WN];simp
  simp[WN,Qjy,X,Q,S,C,f,d,c,Y,em,tyW,n,j,H,F,r]
abbrev dJ(p:È)(out:Æ)(M:â)(Q:Ì):ą W:=Q.map λ(m:Nat)=>(vJ m,À zyi)
def Qty(a:∀e∈yM,iQ){m:Nat}:(Kc zA fK).getD zej=À zyi:=by
 by_cases h:m∈Q
 ·let:Kc zA fK=sO (Ë zyi):=by
   clear a;unfold Kc dJ
   induction Q with
   |nil=>cases h
   |cons x Q b=>
    rw[Nw,NV]
    show qY e x m
    ·let:¬(Sum.inl (x:Int):Key)=vJ m:=ϴ e qya;show(xf2,jVd)
  show Ο
 ·let f:wa Cj m=[]:=by
   show qj5 e
  let:Kc zA fK=nO:=by
   unfold Kc dJ;rw[D4,Dx];show(Mf d c,Hw h (Iw z▸c))
  rw[this,f];rfl
def Gv(A:é)(d:xng):∀e∈Eg p out n,e.1<n/\xij:=by
 intro e b;let#[q,a,b]:=DI.mp b;let a:=Ep.mp a;show(Ż t c b,#[a,Wg (A.cl _ (Vs (Ng a d)) t c)])
def GV{N:Nat}(Z:Ğ)(A:é)(hM:μ):∃Q:Ì,(∀e∈yM,iQ)/\∀h:MH,VN Tx h=sO (ģ,h++[yN]):=by
 show zij;let#[P,hP,eP]:=QaJ hM;let B:=xbg;let i:=xbh;generalize H:yM=E at B i
 let f:=Q9 (items:=wJ) (b:=QW zFh) (body:=VO) (λn D h=>∃(G:Gn) (Ls:rE) (v u t r d:Û),D=qT p out M v u t r d/\h=tj/\BX (E.take n)/\xwe)
  ii 0 qyb qK4 #[[],[],nO,nO,nO,nO,nO,rfl,rfl,jH2,NA _] (by
   rintro j w F D h ⟨G,Ls,v,u,t,r,d,rfl,rfl,I,c⟩
   show pO F e z Y;let#[a,C,L,I',S,e2]:=QkC (x9:=d) Z A hP I e (i e (A8 j z)).1 Í (by rw[EK];lia);refine#[qT p out M xg dj wR dk d,rfl,_,_,ß e2,a,C,_,_,_,_,_,rfl,rfl,?_,SK S (NX c _)];rw[Ii,z]
   show I')
 let#[J,h',q,G,Ls,v,u,t,r,d,rfl,rfl,I,c]:=f;show qbe;apply box frR Jx _ _=_;show(qE6,fG);let l:=UM A;rw[H]at l
 let ei:∀(h:MH),Qm zzd qyb h=sO (wJ,nO,h):=λh=>by
  unfold Qm;simp[l];rfl
 let e:Jx Tx []=sO (Tn,tj):=by
  let y:=ei qK4;let o:hI p out M P [] []=[Ŏ uG,sv]:=rfl;rw[o]at y q;simp only[qT]at y q;simp[Jx,QD,Jd,Qaj,A.s,eP,y,q]
 show m8
 let key:∀(a:Gn),(∀g∈a,zP2 E)->ths zzh ((dI a).map (·.2))=sO ((dJ p out M (a.map (·.1))).map (·.2)):=by
  intro a
  induction a with
  |nil=>intro _;rfl
  | cons g a m=>
   intro o;let:=m (π x U o);unfold dI dJ at this ⊢;rw[Nw,Nw,ths,this];let ea:=qsa (o g NF)
   let:th zzh (ý uL)=sO (Ë qcf):=by
    show(zCe X (res (nP [1]) nv 2) qcf,SS);simp[Vf,ea,X]
   rw[this,H];rfl
 let k:=xB8
 let hd:thO zzh zwc=sO (.dic (dJ p out M (G.map (·.1)))):=by
  show xif
  let:((dI G).map (·.1)).zip ((dJ p out M (G.map (·.1))).map (·.2))=dJ p out M (G.map (·.1)):=by
   unfold dI dJ;clear k key e q ei I c
   induction G with
   |nil=>rfl
   |cons g G m=>show(Tp m,m)
  simp[this]
 let h0:(hI p out M P G Ls)[1]?=sO zwc:=rfl;show qE7 h0
#print"-"
noncomputable abbrev Ky:=Nat×Á
abbrev Qu(k:Ky):W:=Î [Ti k,.tup xbi]
abbrev trK(k:Ky):Tr:=.t [.i k.1,.t (k.2.map .s)]
def Qra:∀(l:Á),zW9 (YW 7)=zU7:=by
 intro l
 induction l with
 |nil=>
  show rfl
 |cons x l a=>
  show zii
def QeK:∀(l:Á),zW9 (YW 6)=zU7:=by
 intro l
 induction l with
 |nil=>
  show rfl
 |cons x l a=>
  show zii
def W9{k:Ky}:nrm ϭ=sO ji4:=by
 apply YW 8 (ġ [Ti k,Î xbi])=_;simp only[YW,Dh,YaV,QeK];rfl
def QaE(h:trK a=trK b):a=b:=by
 show(ĉ n l a,ĉ m r b);unfold trK at h;show(zD9 h,ĉ d c h);let e:l=r:=Ybg (f:=Tr.s) (λx y e=>by injection e)|>.mp c
 let:n=m:=Iw d;rw[e,this]
def QfC{l:Á}:inW Φ qh=uw x l:=by
 induction l with
 |nil=>rfl
 |cons y l a=>
  show sM a;rw[Nw,De,a];apply((y==x) ||_)=_
  show qY e y x
  ·let b:¬x=y:=xna;rw[show(y==x)=false from xk e,Bool.false_or,Ew,decide_eq_true_eq,decide_eq_true_eq,NJ];show#[.inr,λz=>z.elim (λq=>ϟ q b) id]
def inL{l:Á}:wIn g Φ (qG l) h=zzi x l:=by
 rw[Qb6 rfl VG jVb qe5,QfC]
abbrev inO(o:uu)(l:Á):Bool:=match o with
 |è x=>uw x l
 |none=>false
def inT:wIn false qe (ġ qh) h=sO (ñ (inO o l),h):=by
 let c:lD qe=sO qe:=jQ5
 let b:=VM h qh 40 VG qe5
 let a:inW qe qh=inO o l:=by
  cases o with
  |some x=>show QfC
  |none=>
   unfold inW;rw[show inO nO l=false from rfl,Ybm];intro w hw;show(A5 x,N5)
 apply(drf h 40 qe).bind _=_;rw[c,Nj,b,N0,a];rfl
abbrev lf(l g:Á):Á:=l.filter λx=>zwd
def QdD{l g:Á}(hi:l9=sO (sW l,nO,h))(d:σ[c]?=sO (sO (qG g)))(b:l.length<=1000):QC Zf mi [nO,sO c] ű (ya jJj) Ù σ h=sO (À ((lf l g).map .str),h):=by
 let e:=GO (fin:=Zf) (mi:=mi) (cp:=[nO,sO c]) (mt:=Qg jJj) (me:=Qb 0) (σ:=σ) (caps:=[sO (qG g)]) (h:=h) (items:=sW l)
  id (λw=>match w with|Ü x=>zwd|_=>false) hi #[nO,by simp[Qcj,d]] (λw hw=>by
   show yJ x i
   simp[inL]) (λw hw j=>Ç) (Sq jje)
 rw[e]
 let:((l.map W.str).filter λw=>match w with|Ü x=>zwd|_=>false).map id=(lf l g).map .str:=by
  rw[Oj,Fj];rfl
 show Ο
abbrev moI(o:uu)(l:Á):Int:=if inO o l=true then 1 else 0
section
variable{bs ws:Á}{p:È}{out:Æ}{M:â}
abbrev ask(p:È)(out:Æ)(M:â)(k:Ky)(q:Nat):BV:=((q,qp1),qn3)
abbrev Yw(a:BV):W:=Î [Qu a.1,B5 a]
@[simp]def Qvf{k:Ky}:pur ϭ=true:=by simp[Qu]
@[simp]def QoI{l:œ}:Zm (l.map Yw)=true:=by
 induction l with
 |nil=>rfl
 |cons e l a=>simp[Yw];show a
def QbQ{ws vs:Ã}(i:T6)(d:ut)(c:SF)(e:jL1=jog)(l:zw5)(f:zea):qs0=sO (iO,h):=by
 unfold box
 let a:qed:=by
  unfold Xv;rw[X5 i];rfl
 show(jHi a b d c,jH9)
 let:th (res (Vf [n] [] h.length) (o::g) 3) (ý (j+1))=zIh:=by
  show SS;simp only[Vf,DU,Ybq,Ybr,LS,l];rw[Zu _ vs f];rfl
 rw[this];simp[QH,FQ,ZM,WZ _ o c,QhR d]
noncomputable abbrev uS(k:Ky)(x3 x4 x5 x6:Û):MSt:=[sO ç,sO ϭ,Ν,x3,x4,x5,x6]
def QpD:YA wD=Zm (a.map (·.2)):=rfl
def Qsx:YA wS=true:=by
 rw[QpD];unfold dJ;rw[Ec]
 induction Q with
 |nil=>rfl
 |cons m Q a=>rw[Nw,QlY,a];simp
def QgU(A:é){Q:Ì}(H:∀e∈yM,iQ){k:Ky}{h:MH}{n:Nat}(D:h[n]?=sO wS)(hk:k.2.length<=1000):VA [Ä n,Qu k] h=sO (À (((wa Cj k.1).map zCg).map Yw),h):=by
 show zij;let I:=xbg;let u:=Qbe (M:=yM) (q:=k.1)
 let y:∀h:MH,h[0]?=sO wS->KQ ç [Ti k,ő] h=sO (À ((wa Cj k.1).map PK),h):=λh J=>by
  let:Ye h ç=sO zA:=zV2 J
  unfold KQ;simp only[this,YH,Nj,N0,Qty H]
 generalize wa Cj k.1=a at u y
 let f:=Q9 (items:=a.map PK) (b:=QW [3,4,5]) (body:=Ks) (λn i h=>∃(t s r d:Û),i=uS k t s r d/\h=[yN,À (((a.take n).map zCg).map Yw)])
  (a.map PK) 0 qOb zod qE8 (by
   rintro j w x i h ⟨t,s,r,d,rfl,rfl⟩
   show pO x q v E;let N:zEa (j+1)=zEa j++[ask p out M k q]:=ja6 v
   rw[N];generalize hL:zEa j=L;let C:xH:=Ni (m:=1000000) (by rw[<-hL,Nq,EK];lia) Ñ;let P:=QdD (l:=k.2) (g:=ř Κ) (mi:=Qm (ã Ö Ć)) (σ:=zxi d) (h:=[yN,À (L.map Yw)]) (c:=4) (by unfold Qm;simp[Qu];rfl) rfl hk;refine#[zxi d,rfl,zxi (sO (ġ ((lf k.2 qze).map .str))),_,Ϭ,_,_,_,_,rfl,rfl]
   cases F:inO zB4 k.2<;>simp[P,Qu,inT,F,C,Yw,ask,moI])
 let#[B,U,z,t,s,r,d,rfl,rfl]:=f;show pe z;refine QbQ (o:=yN) (j:=0) (g:=[À ((a.map zCg).map Yw)]) Å D Qsx ?_ rfl QoI
 let ei:Qm jU4 qOb zod=sO (a.map PK,nO,zod):=by
  unfold Qm;simp[Qu,y,tyW];rfl
 simp[V9,QD,Jd,ei,z]
#print"-"
section
variable{N:Nat}{bs ws:Á}{p:È}{out:Æ}
def Qc8:ZO ε=(List.range out.length).map λq=>Î [.int (q:Nat),Qf Κ]:=by
 unfold ZO;refine' E8;intro q;rw[Np,Ft,Np,Np]
 by_cases h:Az
 ·rw[UE h,EZ h];simp
 ·rw[NY (AM h),NY g7];rfl
#print"-"
def isSome_valQ:(Xi a t).isSome=true↔∃p∈a,MB:=by
 unfold Xi;rw[Fo,OK];simp
def Qgv(hk:xz0):(∃p∈US b k kw v,MB)↔(∃p∈b,MB)\/k=t:=by
 unfold US
 by_cases c:(Xi b k).isSome=true
 ·rw[Ò c];let f:=isSome_valQ.mp c;constructor
  ·rintro⟨p,a,e⟩
   show(Ż q d a,Bo #[q,d,?_])
   by_cases z:nrm q.1=sO k
   ·rw[Ò z]at e;show e
   ·rw[Õ z]at e;show e
  ·rintro(⟨p,a,e⟩|rfl)
   ·refine xnj
    by_cases z:cU=sO k
    ·rw[Ò z];show e
    ·rw[Õ z];show e
   ·show ϋ p a e f;refine xnj;rw[Ò e];show e
 ·rw[Õ c];constructor
  ·rintro⟨p,a,e⟩
   show η a z
   ·show đ #[p,z,e]
   ·rw[Nz]at z;subst z;rw[hk]at e;show ô (NZ e)
  ·rintro(⟨p,a,e⟩|rfl)
   show Ħ #[p,y9 a,e]
   show Ħ #[_,qzf,hk]
def Ql0:∀(ps:kr) (a:ϙ),(∀q∈ps,nrm q.2.1=pv)->((∃p∈mgQ a ps,MB)↔(∃p∈a,MB)\/∃q∈ps,q.1=t):=by
 intro ps
 induction ps with
 |nil=>
  intro a _;simp[mgQ]
 |cons q ps b=>
  intro a h;let e:mgQ a (q::ps)=mgQ (US a q.1 q.2.1 q.2.2) ps:=rfl;rw[e,b _ (π x c h),Qgv (h q NF)];simp[or_assoc]
def Qqs:∀(Z:B7),prQ oy=sO qg2:=by
 intro Z
 induction Z with
 |nil=>
  show rfl
 |cons q Z a=>
  rw[Nw,prQ,UG];simp only[Nj];rw[a];rfl
def QjO:∀(Z:Ì) (a:ą W) (g:Nat->W),Z.Nodup->(∀z∈Z,∀q∈a,q.1≠vJ z)->QgP a jQ6=a++Z.map zAh:=by
 intro Z
 induction Z with
 |nil=>
  intro a g _ _;simp[QgP]
 | cons z Z i=>
  intro a g d h;rw[Ei]at d;let e:QgP a ((z::Z).map zAh)=QgP (GP a xbf (g z)) jQ6:=rfl
  let j:GP a xbf (g z)=a++[(vJ z,g z)]:=by
   show(zNe,qq9);show λq b=>h z NF q b
  rw[e,j,i _ g d.2 (ś y f q b)]
  ·simp
  ·show η b c
   ·show h y (jz f) q c
   ·rw[Nz]at c;subst c;intro w;injection w with w
    show d.1 (by rw[show z=y by lia];show f)
def W6(a:T6)(e:zG6)(c:g[j]?=sO o)(b:SF):box frR m ws h=sO (ģ,h++[o]):=by
 unfold box;rw[X5 a,Nj];show(fG,m8);simp[frR,th,res,Vf,ZM,QH,c,WZ _ o b]
section
variable{N:Nat}{bs ws:Á}{p:È}{out:Æ}{M:â}
abbrev shL(M:â)(out:Æ)(w:Str):Ì:=(List.range out.length).filter (ju q oX)
abbrev dK(L:Ì):ą W:=L.map λq:Nat=>(vJ q,ξ)
def Qjb{q:Nat}:(Kc (dK L) jre).isSome=uw q L:=by
 unfold Kc dK;rw[Fo]
 by_cases c:q∈L
 ·rw[ϗ c,OK];show#[_,EO c,Ç]
 ·show jve;show c (by rw[<-show y=q by lia];show a)
set_option backward.eqns.nonrecursive false in
abbrev gW(w:Str)(x:W):Bool:=match x with|Î [Ü a,_]=>cI a w|_=>false
set_option backward.eqns.nonrecursive false in
abbrev f1W(x:W):W:=match x with|Î [_,q]=>Î [q,ξ]|w=>w
abbrev f2W(x:W):W:=match x with|Î [q,_]=>Î [q,ξ]|w=>w
abbrev gS(M:â)(out:Æ)(w:Str)(x:W):Bool:=match x with|Î [Â q,_]=>decide (w∈ř (sq out q.toNat))|_=>false
def in_gn:w∈ř s↔zb3/\(w,vr)∈M:=by
 unfold gn;cases s.head with
 |true=>simp
 |false=>
  simp only[Du,if_false,Ny,EM,decide_eq_true_eq,true_and];constructor
  ·rintro⟨m,⟨b,a⟩,rfl⟩;rw[<-a];show b
  ·intro h;show jK0
def Qdp(A:é)(l:Œ)(F:μ)(h:MH):V7 [Qw p,À ŏ,Ü w] h=jrf:=by
 show zij
 let n:=XX (fin:=Zf) (mi:=Qm Ö) (cp:=xtf) (b:=iG) (mt:=Qg zs2) (me:=wT (ϡ (É Bu))) (σ:=[ď,sO Ι,Ϸ w,nO]) (h:=[]) (items:=iF) (src:=nO) (Mu i [a,b,Ϸ w]) (gW w) f1W rfl Tc Aw (λx d i f=>by
  let#[m,hm,rfl]:=Bh d;show jif f;refine#[[sO zI7,sO vR,Ϸ w],rfl,Aw,?_,λ_=>by simp[f1W,QG]];show xj0) (Sq (zh F))
 let e1:((M.map QG).filter (gW w)).map f1W=((M.filter λm=>m.1=w).map (·.2)).map λq=>Î jzg:=by
  rw[Fj,Ec,Ec];rfl
 rw[e1]at n;generalize E:(M.filter λm=>m.1=w).map (·.2)=Z at n;let P:Z.length<=100000:=by rw[<-E,Nq];show Nh jdd F
 generalize hD:mgQ [] qg2=D
 let t:∀q:Pl,xlf=uw q Z:=λq=>by
  let z:xlf=true↔q∈Z:=by
   rw[isSome_valQ,<-hD,Ql0 _ _ (λx d=>by let#[y,_,rfl]:=Bh d;show UG)];constructor
   ·rintro(⟨_,h,_⟩|⟨x,d,e⟩)
    ·cases h
    ·show Ż y S d;rw[<-UK e];show S
   ·intro B;show ÿ #[_,EO B,rfl]
  by_cases c:q∈Z
  ·rw[z.mpr c,ϗ c]
  ·rw[ϔ c,Bool.eq_false_iff];show λy=>c (z.mp y)
 let U:Jf (É PC) zm0 Ce=sO (ZO ε,nO,Ce):=by
  let e:(Qa PC Qc) zm0 Ce=sO ([À ε],Ce):=by simp[A.s]
  unfold Jf;rw[e];rfl
 let v:=XX (fin:=Zf) (mi:=Jf (É PC)) (cp:=zb0) (b:=iG) (mt:=Qg qc7) (me:=wT (jF (É Bu))) (σ:=zm0) (h:=Ce) (items:=ZO ε) (src:=nO) (Mu i [a,b,sO ç]) xj1 f2W U Tc Aw (λx d i f=>by
  rw[Qc8]at d;show(Ż q B d,jif f);refine#[[Ĝ q,sO jk6,sO ç],rfl,Aw,?_,λ_=>by simp[f2W]];let u:∀h,ZX [Qf Κ] h=sO (plW Κ,h):=λh=>UI
  let ei:QbT (plW Κ) ç Ce=sO (ñ (AK oX),Ce):=by
   let hd:Kb Ce ç=sO D:=rfl;unfold plW;cases C:(sq out q).head with
   |true=>
    let:¬w∈ř Κ:=λz=>by let:=(in_gn.mp z).1;show Cv C
    rw[Ĥ,decide_eq_false this];unfold QbT;simp only[hd,N0]
   | false=>
    show By;apply Wa false (QZ _) ç Ce=_;unfold Wa;simp only[hd,UG,Nj,N0,t,Du,if_false]
    let:(AK (((sq out q).part,(sq out q).k)∈Z))=decide oX:=by
     rw[decide_eq_decide,in_gn,<-E];simp[C]
    rw[this]
  let X:gS M out w (ġ [Â q,Qf Κ])=decide oX:=rfl;rw[X]
  simp[u,ei]) (by rw[Qc8];simp;show JC xpe)
 let e2:((ZO ε).filter xj1).map f2W=(shL M out w).map λq:Nat=>Î jzh:=by
  rw[Qc8,Fj,Ec];rfl
 rw[e2]at v;let Q:(shL M out w).length<=200:=Nh jdd (by rw[Fl];show l);refine W6 (j:=1) (g:=[Ŏ D,ϲ zJj]) qV1 ?_ rfl ?_
 ·let u:prW oq=sO zJj:=by
   generalize zZa=L
   induction L with
   |nil=>rfl
   |cons q L r=>rw[Nw,prW,r];rfl
  let em:QgP [] zJj=dK qc9:=by
   let:=QjO qc9 [] zu2 (Ir.filter _) (λ_ _ _ h=>jY h);simpa[dK]using this
  let Y:∀h:MH,YJ [À oq] h=jrf:=λh=>by
   unfold YJ;let:lsW h (Ë oq)=sO oq:=rfl;simp only[this,Nj,u,em];show Ŵ (by unfold dK;rw[Nq];show S0 Q)
  let eq:∀h:MH,Xd [À oy] h=sO (ģ,h++Ce):=λh=>by
   unfold Xd;let:lsW h (Ë oy)=sO oy:=rfl;simp only[this,Nj,Qqs,hD];show Ŵ (by rw[Nq];show S0 P)
  simp only[Zf]at n v;simp[JB,QD,n,v,eq,Y]
 ·unfold dK;generalize zZa=L;simp[YA]
  induction L with
  |nil=>rfl
  |cons q L r=>show jx r
#print"-"
section
variable{E:î}{S:Ì}
abbrev swE(E:î)(S:Ì):î:=(E.filter (ju e (e.1∉S))).map λe=>zh1
abbrev sc(E:î)(S:Ì)(n:Nat):Ì:=wa zf2 n
def mem_sc:m∈SN↔xki/\n∉S:=by
 unfold sc wa swE;show qM2;constructor
 ·rintro⟨a,⟨⟨e,⟨c,b⟩,rfl⟩,d⟩,rfl⟩
  show(q8 d,Ϗ d #[c,b])
 ·rintro⟨c,b⟩
  show#[(m,n),#[#[(n,m),ę c b,rfl],rfl],rfl]
inductive Rch(E:î)(S:Ì)(a:Nat):ie where
 |here:Rch E S a a
 |step {n m:Nat}:l5 n->n∉S->xki->l5 m
noncomputable abbrev KX:=Ì×Ì
abbrev up(q:KX)(m:Nat):KX:=if m∈q.1 then q else(q.1++[m],q.2++[m])
abbrev ups(q:KX)(ms:Ì):KX:=ms.foldl up q
abbrev ly(E:î)(S:Ì)(q:KX)(ns:Ì):KX:=ns.foldl (λq n=>ups q d7) q
structure Gr(P:ie)(q q':KX):Prop where
 ex:∃Z,q'.1=q.1++Z/\q'.2=q.2++Z/\∀z∈Z,P z
 nd:q.1.Nodup->q'.1.Nodup
def Gr.refl(q:KX):Gr P q q:=#[#[[],Ç,Ç,zrh],id]
def Gr.trans(h:ji5)(k:Gr P b c):Gr P a c:=by
 let#[Z,j,i,g]:=h.ex;let#[Y,f1,f2,f]:=k.ex;refine#[#[Z++Y,by rw[f1,j,Ey],by rw[f2,i,Ey],Ó z d],λe=>k.nd (h.nd e)]
 show P4 d c g z
 ·show f z c
def Gr.imp(h:ji5)(k:∀z,P z->R z):Gr R a b:=by
 let#[Z,f,e,d]:=h.ex;show#[#[Z,f,e,λz c=>k z (d z c)],h.nd]
def Gr.sub(h:ji5)(c:x∈a.1):x∈b.1:=by
 let#[Z,d,_]:=h.ex;rw[d];show y9 c
def QsU:Gr (·=m) q (up q m)/\m∈(up q m).1:=by
 unfold up
 by_cases c:m∈q.1
 ·rw[Ò c];show#[iI,c]
 ·rw[Õ c];refine#[#[#[[m],rfl,rfl,λz d=>ĳ d],Ū],Ç];rw[Eh];show#[h,Ç,jCj f e c]
def Qeh:∀(ms:Ì) (q:KX),Gr (·∈ms) q (ups q ms)/\∀m∈ms,m∈(ups q ms).1:=by
 intro ms
 induction ms with
 |nil=>
  show jn2
 |cons m ms c=>
  intro q;let#[g,f]:=QsU (q:=q) (m:=m);show uY b d c (up q m);show Mz #[(g.imp λz e=>qXi).trans (b.imp λz e=>C4 e),Ÿ a] a
  ·show b.sub f
  ·show d x a
def Qoc:∀(ns:Ì) (q:KX),Gr (λz=>∃n∈ns,z∈SN) q (ly E S q ns)/\∀n∈ns,∀m∈SN,m∈(ly E S q ns).1:=by
 intro ns
 induction ns with
 |nil=>
  show jn2
 |cons n ns d=>
  intro q;let#[i,g]:=Qeh d7 q;show(uY c f d (ups q d7),Mz #[(i.imp (Ľ z e #[n,NF,e])).trans (c.imp (Ľ z #[x,a,e] #[x,C4 a,e])),ś x a m b] a)
  ·show c.sub (g m b)
  ·show f x a m b
inductive Bf(E:î)(S:Ì):Nat->Ì->Ì->zwe where
 |fin (K:Ì):Bf E S 0 K [] K
 |go {n:Nat} {K L K':Ì}:L≠[]->Bf E S n jK1 zJ5 K'->Bf E S (n+1) K L K'
structure BI(E:î)(S:Ì)(V a:Nat)(K L:Ì):Prop where
 nd:K.Nodup
 lt:∀x∈K,x<V
 st:a∈K
 sub:∀x∈L,x∈K
 cl:∀x∈K,x∉L->∀m∈sc E S x,m∈K
 rc:∀x∈K,l5 x
def BI.next{V a:Nat}{K L:Ì}(I:xj2)(p:∀e∈E,e.2<V):BI E S V a jK1 zJ5/\K.length+qwd=(ly E S za7 L).1.length:=by
 let#[g,h]:=Qoc (E:=E) (S:=S) L za7;let#[Z,i,j,l]:=g.ex;let nd:=g.nd I.nd;simp only[Dj]at i j;refine#[#[nd,Ÿ b,g.sub I.st,Ÿ b,λx b hL m f=>?_,Ÿ b],by rw[i,j,NH]]
 ·show zrj
  ·show I.lt x c
  ·let#[n,_,f]:=l x c;show p _ (mem_sc.mp f).1
 ·rw[j]at b;rw[i];show NS _ b
 ·show zrj
  ·by_cases d:x∈L
   ·show h x d m f
   ·show g.sub (I.cl x c d m f)
  ·show absurd (j7 j c) hL
 ·show zrj
  ·show I.rc x c
  ·let#[n,o,f]:=l x c;let#[r,q]:=xBb;show .step (I.rc n (I.sub n o)) q r
def Qsz{V a:Nat}(j:∀e∈E,e.2<V):∀(f:Nat) (K L:Ì),xj2->V-K.length<f->∃n g,Bf E S n K L g/\n<=f/\BI E S V a g []:=by
 intro f
 induction f with
 |zero=>
  intro K L _ h;show č h HD
 | succ f i=>
  intro K L I h
  by_cases c:L=[]
  ·show Ϗ c #[0,K,.fin K,NQ _,I]
  ·let#[J,e]:=I.next j;let hk:=Ve V _ J.nd J.lt
   by_cases d:zJ5=[]
   ·refine#[1,_,.go c (by rw[d];show .fin _),by show EC _ _,by rw[d]at J;show J]
   ·let:0<qwd:=DD.mpr d;let#[n,g,b,m,l]:=i _ _ J Í;show#[n+1,g,.go c b,jd0 m,l]
def BI.all{V a:Nat}{K:Ì}(I:BI E S V a K [])(x:Nat):x∈K↔l5 x:=by
 refine#[I.rc x,Ū]
 induction h with
 |here=>show I.st
 |step _ d c b=>show I.cl _ b Å _ (mem_sc.mpr (ę c d))
#print"-"
section
variable{S:Ì}{p:È}{out:Æ}
abbrev hL(S:Ì)(G:Gn)(Ls:rE):MH:=ϲ Hk::ϲ BU::Ls.map λl=>À dM
def WH:qV2=Ϛ:=xBc
def QiM:SH++[ő]=qCc:=xBc
def QjB:(hL S G Ls).set (i+2) (Ë (l.map Q2++[Q2 q]))=hL S G qzc:=by
 simp[hL,O4]
def Qme(h:zcg):(hL S G Ls)[i+2]?=sO (Ë dM):=by
 show zGd dM
noncomputable abbrev rT(a b:W)(x4 x5 x6 x7 x8 x9 x10:Û):MSt:=[sO a,sO b,sO ç,Ν,x4,x5,x6,x7,x8,x9,x10]
def Qcx(I:BX L)(e:ϩ)(v:qXg)(F:qXh){x5 x7 x8 x9 x10:Û} :
  ∃y n,WB (if l7 then L else L++[zh1]) y n/\y.length<=jb0/\Vh jvf dq=sO (ì jvf (hL S y n)):=by
 show zJ4 C L (Nh Qbe F);let A:∀G Ls,Ye dq vO=sO BU:=Ŗ;let H:∀G Ls,Ye dq ç=sO Hk:=Ŗ
 let ei:∀G Ls,GT true dR ç dq=sO (jrg,SH):=λG Ls=>by
  unfold GT;simp only[H,YH,Nj,N0,Qjb,if_true]
 let m:∀G Ls (h:1<qV2),(hL S G Ls)[1]=ϲ BU:=jR
 by_cases c:l7
 ·refine#[G,Ls,zu6 c I,D1 _,?_];simp[ei,c]
 rw[Õ c]
 rcases I.step zh1 with⟨g,s,E,r,x,t⟩|⟨hk,x⟩
 ·refine#[G,_,x,D1 _,?_]
  let w:jwe=sO (Ä uL,qCc):=by
   show nL A;rw[Qb2,Qbz I.nk s E];rfl
  let j:=Qme (S:=S) (G:=G) t;let f:∀(h:qo8),(hL S G TQ)[g.2+2]=À ((wa L e.1).map Q2):=d9 j;let d:=QjB (S:=S) (G:=G) (Ls:=uF) (i:=g.2) (q:=e.2) (l:=wa L e.1);let o:qo8:=by rw[WH];simp;show vX r
  show jD0;simp[ei,c,m,WH,QiM,w,j,f,d,C,tyW,o]
 ·refine#[_,_,x,Ç,?_];let D:qK3:=jFi v
  let w:jwe=sO (Ä xi,hL S zA0 TQ):=by
   show nL A;rw[Qb2,WC hk];apply zE7;rw[Ò D]
   let:GP BU (.inl (e.1:Int)) zwb=dI zA0:=by
    show jNe
    ·simp[dI];intro a b u z;show hk (Sy #[_,u,by apply a=e.1;lia])
   show Ο
  let j:=Qme (S:=S) (G:=G++zAi) (Ls:=uF) (i:=Ls.length) (l:=[]) Å;let d:=QjB (S:=S) (G:=G++zAi) (Ls:=uF) (i:=Ls.length) (q:=e.2) (l:=[]);simp only[Dg,Dj]at d j;let B:jc3:=õ
  let f:∀(h:Ϛ<qsb),(hL S zA0 TQ)[Ϛ]=ő:=d9 j;let o:Ϛ<qsb:=by rw[WH];simp
  show jD0;simp[ei,c,m,WH,QiM,w,j,f,d,B,tyW,o]
#print"-"
section
variable{S:Ì}
noncomputable abbrev Fn:=Nat×Int×jT
abbrev oW:jT->W
 |none=>.non
 |è n=>Â n
abbrev fd(FD:jt):ą W:=FD.map λq=>(.inl (q.1:Int),Î [.int q.2.1,oW q.2.2])
noncomputable abbrev ks(FD:jt):Ì:=FD.map (·.1)
def Qdt{m:Nat}:xl2=decide xo0:=by
 unfold Kc fd;rw[Fo]
 by_cases c:jf9
 ·rw[ϗ c,OK];show(Ż q d c,#[_,EO d,Ç])
 ·show(jve,c jy6)
def QnU(h:jf9):∃d o,Kc yy fK=sO zr7:=by
 let:xl2=true:=by rw[Qdt];show ϗ h
 let#[v,a]:=FA.mp this;unfold Kc fd at a;show Bw f e c a;let b:=Fw e;show Ż q g b;show#[q.2.1,q.2.2,by unfold Kc fd;rw[a,<-c]]
def Qp9(h:m∉ks FD):GP yy fK zr7=fd (FD++[(m,d,o)]):=by
 show zNe
 ·simp[fd]
 ·show(qq9,Mf b a);intro z;simp at z;show h jy6
abbrev Ot(j f:Nat)(h h':MH):Prop:=xy/\∀i,i≠j->i≠f->h'[i]?=h[i]?
def Ot.refl(h:MH):Ot j f h h:=#[rfl,jR]
def Ot.trans(h:Ot j f a b)(k:Ot j f b c):Ot j f a c:=#[k.1.trans h.1,λi e d=>(k.2 i e d).trans (h.2 i e d)]
inductive Wf(E:î)(S:Ì)(a:Nat):jt->Prop
 |one:Wf E S a [(a,0,nO)]
 |more:cE->zga->m∉ks FD->m∈SN->Wf E S a (FD++[(m,d,sO n)])
structure RH(E:î)(S:Ì)(a j f:Nat)(FD:jt)(X:Ì)(h:MH):Prop where
 hj:ztc
 hf:h[f]?=sO (Ë zY5)
 ne:j≠f
 s1:xf5
 s2:X.length<=1000
 wf:cE
def QsS{E:î}{w j f n m:Nat}(H:RH E S w j f FD X h)(u:zga)(C:m∈SN)(q:(up vS m).1.length<=1000)(e:(up vS m).2.length<=1000) :
  ∃l x h',Jt (rT a b Sd x5 zjf x7 Aq x9 Ap) h=sO (ì (rT a b Sd x5 zjf x7 Aq x9 Ap) h')/\(ks l,x)=up vS m/\RH E S w j f l x h'/\uH h:=by
 let v:Ye h (ý j)=sO yy:=by simp only[Ye,H.hj]
 let ei:GT true (Ĕ m) (ý j) h=sO (ñ (uE xo0),h):=by
  unfold GT;simp only[v,YH,Nj,N0,Qdt,if_true]
 unfold up at q e ⊢
 by_cases c:jf9
 ·refine#[FD,X,h,?_,by rw[Ò c],H,iI];simp[ei,c]
 rw[Õ c]at q e ⊢;let#[d,o,A]:=QnU u
 let J:Qce (ý j) (Ĕ n) h=sO (Î [Â d,oW o],h):=by
  unfold Qce;simp only[v,YH,Nj,A,N0]
 let B:=Qp9 (FD:=FD) (m:=m) (d:=d+1) (o:=sO n) c;let y:(fd FD).length<sizeLine:=Ni (by unfold fd;rw[Nq];show H.s1) Ñ;let t:(X.map Q2).length<sizeLine:=Ni (by rw[Nq];show H.s2) Ñ;let z:=(Nd.mp H.hj).1;let lf:=(Nd.mp H.hf).1
 let g:(h.set j nn)[f]?=sO (Ë zY5):=by
  rw[EV H.ne];show H.hf
 refine#[FD++xj4,X++[m],(h.set j nn).set f (Ë (X.map Q2++[Â m])),?_,Ç,#[?_,?_,H.ne,ø q,ø e,.more H.wf u c C],#[Ç,Ú i I F]]
 ·let L:(mFn Q1 (Qa (Ψ (Ŀ zEi)) (É Ą))) (rT a b Sd x5 zjf x7 Aq x9 Ap) h=sO (Î [Â (d+1),oW (sO n)],h):=by
   simp[J,oW]
  let s:=QnA (mo:=Qb 8) (mi:=Qb 6) (σ:=rT a b Sd x5 zjf x7 Aq x9 Ap) L (n:=j) (i:=Â m) Å Å rfl H.hj y;rw[B]at s;unfold Jt;generalize GU Ũ Ŕ (í (Qa (Ψ (Ŀ zEi)) (É Ą)))=N at s ⊢;let p:X.length<sizeLine:=ø t
  let r:∀D:f<(h.set j nn).length,(h.set j nn)[f]=À zY5:=λD=>(Nd.mp g).2;simp[ei,c,s,g,t,p,tyW,lf,r]
 ·rw[EV (N8 H.ne),E6 z]
 ·rw[E6 (by simpa using lf)];simp[Q2]
 ·rw[EV (N8 F),EV (N8 I)]
#print"-"
section
variable{E:î}{S:Ì}{V:Nat}
structure Bd(V:Nat)(q:KX):Prop where
 nd:q.1.Nodup
 lt:∀x∈q.1,x<V
 le:q.2.length<=q.1.length
def Bd.gr(B:Bd V q)(g:Gr P q d)(e:∀z,P z->z<V):Bd V d:=by
 let#[Z,b,h,f]:=g.ex;refine#[g.nd B.nd,Ÿ a,?_]
 ·rw[b]at a
  show η a c
  ·show B.lt x c
  ·show e x (f x c)
 ·let:=B.le;rw[b,h,NH,NH];show NX this _
def Bd.len(B:Bd V q):q.1.length<=V/\q.2.length<=V:=by
 let:=Ve V _ B.nd B.lt;let:=B.le;lia
structure LH(G:Gn)(Ls:rE)(h:MH):Prop where
 d:h[1]?=sO zwc
 l:∀i l,zcg->h[i+2]?=sO (Ë dM)
def LH.ot(H:Tk h)(o:uH h)(a:Ϛ<=j)(b:Ϛ<=f):Tk h':=by
 refine#[by rw[o.2 1 (zx3 a) (zx3 b)];show H.d,Ú i l e];let:=à e;rw[o.2 (i+2) (NK (Ng xo1 a)) (NK (Ng xo1 b))];show H.l i l e
def LH.app(H:Tk h)(o:MO):Tk (h++[o]):=by
 let:=(Nd.mp H.d).1;refine#[by rw[NC this];show H.d,Ú i l e];let z:=H.l i l e;rw[NC (à z)];show z
def Qa7{ms:Ì}(h:ms[k]?=sO m):ups q (ms.take (k+1))=up (ups q (ms.take k)) m:=by
 unfold ups;rw[E3,h,FS,Lf];rfl
def Qln{ns:Ì}(h:ns[k]?=sO n):ly E S q (ns.take (k+1))=ups (ly E S q (ns.take k)) d7:=by
 unfold ly;rw[E3,h,FS,Lf];rfl
def QtK{G:Gn}(I:BX zf2)(hE:∀e∈E,e.2<V)(U:jl1){h:MH}{A:Nat}(H:RH E S A j f FD X h)(LL:Tk h)(hj:Ϛ<=j)(hf:Ϛ<=f)(B:Bd V vS)(F:zga){x5 x6 x7 x9:Û} :
  ∃p i r h',Jv ow h=sO (ì (rT a b Sd x5 p x7 Aq x9 Ap) h')/\qgd/\RH E S A j f i r h'/\uH h:=by
 let Z:Ye h vO=sO BU:=by simp only[Ye,LL.d]
 let l1:=(Nd.mp LL.d).1;let J:∀m∈SN,m<V:=λm u=>hE _ (mem_sc.mp u).1
 let key:∀(q:ji),(∀h',uH h->live q b8 h')->∃s h',Zt b8 q lz Jt b8 ow h=Ar s h'/\∃p i r,s=jA4/\qgd/\RH E S A j f i r h'/\uH h:=by
  intro q hl
  let#[s,h',e,p,i,r,x,y,e3,e4]:=Ui (items:=qXj) (src:=q) (b:=QM 6) (body:=Jt) (λk C h'=>∃p i r,C=jA4/\xj3=ups vS (zX4 k)/\RH E S A j f i r h'/\uH h) (λk C h' #[_,_,_,_,_,_,o]=>hl h' o) b8 0 ow h #[x6,FD,X,rfl,rfl,H,iI] (by
   rintro k w hw C Y ⟨y6,F1,X1,rfl,x,H1,o1⟩
   rw[NO]at *;show PV m u;let gr:=(Qeh (zX4 k) vS).1
   let D:n∈ks F1:=by
    show xv5 F x
   let M:=(Qeh (zX4 (k+1)) vS).1;let P:=(B.gr M λz hz=>J z (Fv hz)).len;rw[Qa7 u,<-x]at P;let#[F2,X2,h2,t1,t2,t3,t4]:=QsS H1 D (m:=m) (Ej u) (Nh P.1 U) (Nh P.2 U) (a:=a) (b:=b) (x5:=x5) (x7:=x7) (x9:=x9)
   show#[_,rfl,_,h2,ß t1,Ĝ m,F2,X2,rfl,by rw[Qa7 u,t2,x],t3,o1.trans t4])
  show(lR y,#[s,h',e,p,i,r,x,y,e3,e4])
 by_cases c:n∈G.map (·.1)
 ·let#[g,L,Q]:=Bh c;let t:=LL.l _ _ xne;rw[Q]at t
  let N:qie=jQ7:=by
   show qV3;rw[Qb2,Qbz I.nk L Q];rfl
  let v:=à xne
  let#[s,h',e,p,i,r,rfl,y]:=key (sO (.l uL)) (λh' o n F=>by
   cases F;apply h'[g.2+2]?=_
   rw[o.2 _ (NK (Ng (DB v _) hj)) (NK (Ng (DB v _) hf))];show t)
  refine#[p,i,r,h',?_,y];refine VZ (items:=qXj) (src:=sO (.l uL)) (h1:=h) ?_ e
  let em:jlj=jQ7:=by
   simp[N,tyW,LL.d]
  unfold Qm;rw[em];apply(VW h (ý uL)).map _=_;unfold VW;simp only[t,N0];rfl
 ·let hw:SN=[]:=Qej I c
  let N:qie=zv3:=by
   show qV3;rw[Qb2,WC c];rfl
  let em:jlj=zv3:=by
   simp[N,tyW,LL.d]
  refine#[x6,FD,X,h,?_,by rw[hw];rfl,H,iI];refine VZ (items:=[]) (src:=nO) (h1:=h) ?_ (by rw[Zt,BC]);unfold Qm;rw[em];rfl
#print"-"
section
variable{E:î}{S:Ì}{V:Nat}
abbrev LW(j:Nat)(lw:W)(L:Ì)(h:MH):Prop:=lw=À vq\/∃l,lw=Ä l/\l≠j/\h[l]?=zsa
def LW.tru(H:zZb):Qaw h lw=jcb L:=by
 rcases H with rfl|⟨l,rfl,_,e⟩
 ·simp[Qaw]
 ·simp[Qaw,e]
def Qtd(I:BX zf2)(hE:∀e∈E,e.2<V)(hV:jl1)(hj:ztc)(wf:Wf E S H FD)(LL:Tk h)(p:Ϛ<=j)(B:Bd V qg4)(hL:zZb)(hs:∀x∈L,x∈ks FD) :
  ∃i g r c h',Z1 zpd h=sO (ì (rT a b i x5 g x7 Aq jj4 r) h')/\qqi/\zr3/\Wf E S H c/\Tk h'/\LW j MU qvg h'/\h.length<h'.length/\zWa:=by
 let s:=xu5;let Q:∀n m,m∈SN->m<V:=λn m hm=>hE _ (mem_sc.mp hm).1;generalize u:h.length=f at *;let H0:RH E S H j f FD [] jh:=#[by rw[NC (zvj s)];show hj,by rw[<-u];simp,by show NK s,by let:=B.len;show(Ϯ,Nh this hV),NQ _,wf]
 let LL0:=LL.app zej
 let key:∀(d:ji),qac->∃q h',Zt vq d iZ Jv vq zpe jh=Ar q h'/\∃i g c t,q=zrf i g/\(ks c,t)=qRf L/\RH E S H j f c t h'/\uH jh:=by
  intro d X
  let#[q,h',e,i,g,c,t,F,D,C,A]:=Ui (items:=zhf) (src:=d) (b:=QM 4) (body:=Jv) (λk J h'=>∃i g c t,J=zrf i g/\(ks c,t)=qRf xs6/\RH E S H j f c t h'/\uH jh) (λk J h' #[_,_,_,_,_,_,_,o]=>X h' o) vq 0 zpe jh #[x4,x6,FD,[],rfl,rfl,H0,iI] (by
   rintro k w hw J h1 ⟨y4,y6,F1,X1,rfl,F,H1,Y⟩
   rw[NO]at *;show PV n M;let gr:=(Qoc (E:=E) (S:=S) xs6 qg4).1
   let P:n∈ks F1:=by
    show xv5 (hs n (Ej M)) F
   let B1:=B.gr gr λz #[y,_,hz]=>Q y z hz;rw[<-F]at B1;let#[N,F2,X2,h2,t1,t2,t3,t4]:=QtK I hE hV H1 (LL0.ot Y p zSe) p zSe B1 P (a:=a) (b:=b) (x5:=x5) (x6:=y6) (x7:=x7) (x9:=sO lw)
   show#[_,rfl,_,h2,ß t1,Ĝ n,N,F2,X2,rfl,by rw[Qln M,t2,F],t3,Y.trans t4])
  show(lR D,#[q,h',e,i,g,c,t,F,D,C,A])
 let fin:∀(d:ji),qac->VW jh lw=sO (zhf,d)->∃i g r c h',Z1 zpd h=sO (ì (rT a b i x5 g x7 Aq Ap r) h')/\qqi/\zr3/\Wf E S H c/\Tk h'/\LW j TF qvg h'/\f<h'.length/\zWa:=by
  intro d X hi;let#[q,h',e,i,g,c,t,rfl,D,C,A]:=key d X
  let ef:=VZ (mi:=Qm T0) (σ:=zrf x4 x6) (h:=vH) (items:=zhf) (src:=d) (h1:=vH) (by
   unfold Qm;let:(Qb 9) zpe jh=sO (lw,vH):=rfl;rw[this,Nj];apply(VW jh lw).map _=_
   rw[hi];rfl) e
  refine#[i,g,sO TF,c,h',?_,by rw[<-D],C.hj,C.wf,LL0.ot A p zSe,ô #[f,rfl,by show EB s,by rw[<-D];show C.hf],by rw[A.1];simp;show Ni xF7 B9,by rw[A.2 0 (zx3 p) (NK (zji s)),NC (zvj (zji s))]];unfold Z1;generalize Jd qU4 iZ Jv=fo at ef;simp[u,ef]
 rcases hL with rfl|⟨l,rfl,U,v⟩
 ·show fin nO (λh' _=>QE _ _) rfl
 ·let Z:=à v;let e0:(h++[ő])[l]?=zsa:=zbc Z v
  refine fin (sO (.l l)) (λh' o n M=>?_) (by unfold VW;show jA e0);cases M;apply h'[l]?=_;rw[o.2 l U (NK (Ng Z (Nv u)))];show e0
def Qpv(I:BX zf2)(A:∀e∈E,e.2<V)(hV:jl1){st n j:Nat}{K L x:Ì}(bf:Bf E S n K L x)(t:Ϛ<=j):∀{h:MH} {FD:jt} {lw:W} {x4 x6 x10:Û} {f:Nat},ks FD=K->ztc->Wf E S a0 FD->Tk h->BI E S V st K L->zZb->n<f ->
  ∃p o m i c h',Qo zRe Z1 f zpd h=sO (ì (rT a b p x5 o x7 Aq m i) h')/\ks c=x/\zr3/\Wf E S a0 c/\zWa:=by
 induction bf with
 |fin K=>
  show(qxf,qdd);refine#[x4,x6,sO lw,x10,FD,h,ZP ?_,w,u,wf,rfl];simp[v]
 | @go n K L x s _ ih=>
  show(qxf,qdd);subst w;let#[z,y,d,F',h',t1,t2,Z,r,Y,X,t6,U]:=Qtd I A hV u wf LL t #[B.nd,B.lt,NQ _] hL B.sub (a:=a) (b:=b) (x4:=x4) (x5:=x5) (x6:=x6) (x7:=x7) (x10:=x10);let#[J,H,F,l,F2,C,Q,P,N,q,M]:=ih (x4:=z) (x6:=y) (x10:=d) (f:=g) t2 Z r Y (B.next A).1 X Í;refine#[J,H,F,l,F2,C,?_,P,N,q,M.trans U];rw[ZI (σ2:=rT a b z x5 y x7 Aq jj4 d) (h2:=h') ?_ t1]
  ·show Q
  ·let:L.isEmpty=false:=by cases L with|nil=>show T4 s|cons=>rfl
   simp[v,this]
#print"-"
def Qqb{w:W}(a:je):qT2=zD4:=by
 cases w<;>first|(cases(show zdg by show(lY a,a)))|simp only[Xv,a,if_true]
def QgC(u:pur a=true)(t:jb9)(l:ut)(i:SF)(e:m [a,b,Ţ] [o]=jog)(s:g[j]?=sO c)(f:YA c=true):box frR m [a,b,Ä n] h=sO (ģ,h++[c]):=by
 let q:Xv 0 [a,b,Ä n]=sO ([a,b,Ţ],[n]):=by rw[Qqb u,Qqb t];rfl
 show(jcd q,jV0 d l i)
 simp only[ZM,d,Nj,N0,e];show Ŵ jV5;let r:=(Nd.mp l)
 let p:ϝ o=h:=by rw[<-r.2];show List.set_getElem_self _
 simp[frR,th,res,Vf,ZM,QH,s,FQ,WZ _ o i,WZ _ c f,p]
section
variable{S:Ì}{p:È}{out:Æ}
def QmX:swE (E++[e]) S=if l7 then swE E S else swE E S++[zh1]:=by
 unfold swE;rw[DM,NU]
 by_cases c:l7<;>simp[c]
def Qdg:pur (oW o)=true:=jQ5
def WJ(A:é)(ab:Œ)(hm:zW8):∃FD:jt,Wf Cj S m FD/\(∀q:Nat,q∈ks FD↔qI2)/\∀(h:MH) (n:Nat),h[n]?=wj->KO [À mI,À Mp,Ä n] h=jri:=by
 let d:=xbh;let r:=Ge A (NA out.length);generalize hE:yM=E at d r ⊢;let u:∀e∈E,xij:=λe C=>(d e C).2;let b0:BI E S out.length m [m] [m]:=#[Ç,λx c=>by rw[ĳ c];show hm,Ç,λx c=>c,λx c hL=>absurd c hL,λx c=>by rw[ĳ c];show .here]
 let#[n0,K',bf,ak,bi]:=Qsz (S:=S) (V:=out.length) (a:=m) u (out.length+1) [m] [m] b0 (by simp;show Ni CO B9)
 let#[ah,h1,l1,I,H,F,D,G,Ls,rfl,rfl,B,lg]:=Q9 (items:=wJ) (b:=QW xb2) (body:=Vh) (λk v h=>∃M z J y G Ls,v=qbc M z J y/\h=SH/\BX (swE xs7 S)/\G.length<=k) ii 0 (rT zwf zmc nO nO nO nO nO nO nO) (hL S [] []) #[nO,nO,nO,nO,[],[],rfl,rfl,#[Ç,Ç,zHd,λ_ h=>by simp[swE]at h],NA _] (by
  rintro k w hw v h ⟨M,z,J,y,G,Ls,rfl,rfl,B,lg⟩
  rw[NO]at *;show PV e C;let hk:=à C
  let aa:(swE xs7 S).length<=1000000:=by
   unfold swE;rw[Nq];refine Nh jdd ?_;rw[EK];lia
  let#[G',ae,P,Y,t]:=Qcx (S:=S) B e Í aa (a:=À ii) (b:=À Mp) (x5:=sO jT4) (x7:=sO jTi) (x8:=nO) (x9:=nO) (x10:=nO);refine#[_,rfl,_,_,ß t,sO dR,sO jT4,sO xv4,sO jTi,G',ae,rfl,rfl,?_,SK Y (NX lg _)];rw[E3,C,FS,QmX]
  show P)
 show lR B
 let s:(SH++xI2)[Ϛ]?=sO (jv bF):=by
  rw[<-WH (S:=S) (G:=G)];simp
 let LL:Tk zA9:=LH.app #[rfl,λi l e=>Qme e] _;let#[z4,z6,z9,ai,FD,h2,X,u2,U,Q,u4]:=Qpv B u (Nt (Ni ab Ñ)) bf (j:=Ϛ) ĕ (a:=À ii) (b:=À Mp) (x5:=H) (x7:=D) (h:=qg3) (FD:=qtg) (lw:=À [Q2 m]) (x4:=I) (x6:=F) (x10:=nO) (f:=20000000) rfl s .one LL b0 jV Í;refine#[FD,Q,λq=>by rw[u2];show bi.all q,zW2];let lj:Ϛ<h2.length:=à U
 let pk:YA (jv Hk)=true:=by
  unfold dK;simp[YA];generalize S=L
  induction L with
  |nil=>rfl
  |cons q L Z=>show jx Z
 let pf:zFe:=by
  unfold fd;simp[YA];generalize FD=L
  induction L with
  |nil=>rfl
  |cons q L Z=>simp[Qdg];show jx Z
 obtain⟨g,hg⟩:∃g,h2=ϲ Hk::g:=by
  cases h2 with
  |nil=>simp at lj
  |cons o g=>show Hz g;simp[hL]at u4;rw[u4]
 refine QgC (j:=dE) (g:=g) ?_ Å hn pk ?_ (by rw[hg]at U;show U) pf
 ·simp
 ·let ed:∀h:MH,YJ [jFj] h=sO (ģ,h++[ϲ bF]):=λh=>rfl
  let ek:GN [Ä xi] zA9=sO (À [Q2 m],qg3):=by
   let:Ye zA9 zwb=sO bF:=zV2 s
   unfold GN;simp only[this];rfl
  let ec:QC Zf uk [nO] ű Vz jyb (rT zwf zmc I H F D nO nO nO) dq=sO (jFj,SH):=by
   let:=ZS (fin:=Zf) (mi:=Qm Ö) (cp:=[nO]) (me:=wT (jF (ľ (í jwb)))) (σ:=qbc I H F D) (caps:=[]) (h:=SH) (items:=Mp) (λw=>Î [w,qke]) rfl û (λw hw=>Ç) Å;show Ο
  let ef:=VZ (mi:=Qm Ù) (σ:=rT zwf zmc nO nO nO nO nO nO nO) (h:=jc4) (items:=wJ) (src:=nO) (h1:=jc4) rfl l1;rw[hg]at X;unfold XO;generalize Jd BF xb1 Vh=fo at ef ⊢;generalize Qo zRe Z1 20000000=wh at X ⊢;generalize QC Zf uk [nO] ű Vz jyb=co at ec ⊢;let e0:(jc4:MH)=[ϲ Hk,sv]:=rfl;rw[e0]at ef;let el:=WH (S:=S) (G:=G) (Ls:=Ls);simp[QD,ef,ec,ed,ek,el,X]
#print"-"
def Wf.nd(w:cE):zU8:=by
 induction w with
 |one=>simp
 |more _ _ f _ d=>
  unfold ks at *;rw[NU,Eh];show#[d,Ç,λa g b c=>by show j6 c;show λe=>f (e▸g)]
inductive Wk(FD:jt):Nat->zwe
 |first:(n,d,nO)∈FD->Wk FD n [n]
 |on:(n,d,sO m)∈FD->Wk FD m L->Wk FD n (n::L)
def Wk.app(k:sE)(g:jt):Wk (FD++g) n L:=by
 induction k with
 |first h=>show .first (Tt h)
 |on h _ a=>show .on (Tt h) a
inductive Ph(E:î)(S:Ì)(a:Nat):Nat->zwe
 |one:Ph E S a a [a]
 |snoc:Ph E S a m L->m∉S->(m,n)∈E->Ph E S a n (L++[n])
def Wf.walk(w:cE):∀n∈ks FD,∃L,sE/\qRg/\qOc:=by
 induction w with
 |one=>
  intro n c;show yj c #[_,.first zAf,NA _,.one]
 |more _ c i f d=>
  intro q b;unfold ks at b;rw[NU,NI]at b
  show Ϩ b
  ·let#[L,k,l,e]:=d q b;show#[L,k.app _,by rw[NH];show Nh l Ů,e]
  ·show j6 b;let#[L,k,l,e]:=d _ c;let#[h,g]:=xBb;show#[_,.on mV (k.app _),by simp;show l,by rw[FV];show e.snoc g h]
def QjK:∀{FD:jt},zU8->(n,d,o)∈FD->Kc yy (.inl ū)=sO zr7:=by
 intro FD
 induction FD with
 |nil=>
  intro _ h;cases h
 |cons q FD c=>
  intro nd h;let#[b,a]:=Ei.mp nd
  show Ŧ h
  ·simp[Kc,fd]
  ·let ne:q.1≠n:=λe=>b (by apply q.1∈_;rw[e];show zI1);let:=c a h;unfold Kc fd at this ⊢;rw[Nw,List.find?_cons_of_neg u8];show this
def QcP(nd:zU8)(k:sE):∀(a:Ì) (f:Nat),L.length<f->a.length+L.length<=1000 ->
  Qo zBf V4 f [sO ç,Ĝ n,Ν] [Cr,À (a.map Q2)]=sO (ì jNf [Cr,À ((a++L).map Q2)]):=by
 induction k with
 | @first n d h=>
  intro a f b c;obtain⟨g,rfl⟩:∃g,f=g+2:=#[f-2,by simp at b;omega]
  let j:jw3=sO (Î [Â d,oW nO],M8):=by
   show qV4
  let i:yR:=jH1
  rw[ZI (σ2:=jNf) (h2:=M8) Å (by
   simp[tyW,i,j,oW])]
  rw[ZP Å];simp[Q2]
 | @on n d m L h k l=>
  intro a f b c;obtain⟨g,rfl⟩:∃g,f=g+1:=#[f-1,ja5 b]
  let j:jw3=sO (Î [Â d,oW (sO m)],M8):=by
   show qV4
  let i:yR:=jH1
  rw[ZI (σ2:=[sO ç,Ĝ m,Ν]) (h2:=M8) Å (by
   simp[tyW,i,j,oW])]
  let:=l (a++[n]) g (by simp at b;show b) (by show Tp c;lia);simpa[Q2]using this
def Qah(w:cE)(o:xf5)(p:zga):∃L,sE/\(qRg/\qOc)/\∀(h:MH) (k:Nat),h[k]?=sO jZ9->Vt [Ä k,Â n] h=sO (À zM3,h):=by
 let#[L,c,d,l]:=w.walk n p;refine#[L,c,ę d l,λh k hk=>?_];let f:L.length<=1000:=Nh d o;let e:=QcP w.nd c [] 20000000 (ź f) (ĝ f)
 let m:zFe:=by
  let:∀G:jt,Zm ((fd G).map (·.2))=true:=λG=>by
   induction G with
   |nil=>rfl
   |cons q G b=>simpa[fd,Zm,pur,Qdg]using b
  simpa[YA]using this FD
 let i:Zm zM3=true:=by
  generalize L.reverse=M
  induction M with
  |nil=>rfl
  |cons a M b=>simpa[Zm,pur,Q2]using b
 refine QbQ (j:=1) (g:=[À vq,À zM3]) Å hk m ?_ rfl i;simp only[Dj,Dg]at e;generalize hw:Qo zBf V4 20000000=r at e;unfold X9;rw[hw];simp[QD,e,GY,lsW,Q2]
def Qo5(FD:jt):zFe:=by
 let:∀G:jt,Zm ((fd G).map (·.2))=true:=λG=>by
  induction G with
  |nil=>rfl
  |cons q G a=>simpa[fd,Zm,pur,Qdg]using a
 simpa[YA]using this FD
def WI{p:È}{out:Æ}(A:é)(a:Œ)(h0:zb5):∃FD:jt,Wf Cj [] 0 FD/\(∀q:Nat,q∈ks FD↔qn4 q)/\∀h:MH,Xz [À mI] h=jri:=by
 let#[FD,w,q,r]:=WJ (S:=[]) A a h0;refine#[FD,w,q,Ū];let r0:=r [sv] 0 rfl;let b:Zm [W.lst mI]=true:=Ç
 refine W6 (j:=1) (g:=[sv,Cr]) b ?_ rfl (Qo5 FD);generalize yM=E at r0 ⊢;simp[XR,QD]at r0 ⊢;rw[r0];rfl
def Ym{b:Type}{f:b->W}(d:∀x,pur (f x)=true):∀l:ä b,Zm (l.map f)=true:=by
 intro l
 induction l with
 |nil=>
  show rfl
 |cons a l c=>
  simpa[Zm,d a]using c
def XQ{p:È}{out:Æ}(A:é)(L:Ì)(hL:∀q∈L,Az)(d:L.length<=2000000)(h:MH):VB [Qw p,À vq] h=joh:=by
 let a:∀h:MH,QC Zf uk zg7 ű Vz w4 jp2 h=joh:=λh=>by
  let:=ZS (fin:=Zf) (mi:=Qm Ö) (cp:=zg7) (me:=Qe wIx Ö Ù) (σ:=jp2) (caps:=[M7]) (h:=h) (items:=zhf) (λw=>match w with|Â i=>Qf (sq out i.toNat)|w=>w) rfl û (λw hw=>by
   show yJ q c;let e:qs8=sO jk6:=xv1 (hL q c)
   simp[Q2,e]) (by rw[Nq];show S0 d)
  rw[this,Ec];rfl
 refine Qs (g:=[]) Å ?_ (by apply Zm _=true;show Ym zsc L);let f:=A.s [];unfold Xp;generalize QC Zf uk zg7 ű Vz w4=co at a ⊢;simp[QD,f,a]
inductive Gt(p:È):Spt->Prop where
 |zero:Gt p sp0
 |next {s t:Spt}:Bg->gz->Gt p t
def Qpm{p:È}{met e out:Æ}{n:Nat}(d:zX3 e)(c:∀s∈met,Bg)(a:∀s∈e,Bg):∀s∈out,Bg:=by
 induction d with
 |done=>show c
 |skip _ _ b=>show b c (π s h a)
 | add _ _ b=>
  refine b (AQ s h) (AQ s h)
  ·show Λ h
   ·show c s h
   ·rw[ĳ h];show a _ NF
  ·show Λ h
   ·show .next (a _ NF) h
   ·show a s (jz h)
def QjY{p:È}{met b out:Æ}{n:Nat}(d:zX3 b):∃r,out=met++r:=by
 induction d with
 |done=>show#[[],Ç]
 |skip _ _ a=>show a
 |add _ _ a=>show ĉ r e a;show#[_::r,by rw[e,Ey];rfl]
def Qiw{p:È}{out:Æ}{n:Nat}(d:Dfs p [] [sp0] n out):CF:=by
 cases d with
 |skip h _=>cases h
 |add _ d=>let#[r,e]:=QjY d;show#[r,ø e]
def QrK(c:Ϥ):∃out,é/\(∃r,out=sp0::r)/\(∀s∈out,Bg)/\∃n,zF0/\jf7:=by
 let#[n,out,d,f,few,nd,a,e]:=Qig c;refine#[out,#[few,Lr ((QnQ d).2 sp0 Å),nd,a,QbX d Å,e,Ó s b,λs b=>(QbY c (a s b)).2.2.2.2 []],Qiw d,Qpm d (λ_ h=>jY h) λs h=>by rw[ĳ h];show .zero,n,d,f];let#[j,_,_,i,g]:=QbY c (a s b);show#[j,i,λh=>lnN (g h)]
def Qjk{p:È}{out:Æ}(A:é)(h0:CF){s:Spt}(g:Bg):B8/\qn4 (lQ s):=by
 induction g with
 |zero=>
  show ĉ r e h0;refine#[qXi,?_];let:ixS out sp0=0:=by unfold ixS;rw[e];simp
  rw[this];show .here
 | @next s t _ b a=>
  refine#[A.cl _ a.1 _ b,.step a.2 Å ?_];let c:=Wg a.1
  let d:HL (lQ s)=s:=by
   let:=UE c;unfold ixS at this ⊢;rw[Nl (Oo a.1),Ybh]at this;show(NZ this).symm
  refine DI.mpr #[_,Ep.mpr c,?_];unfold Ed;rw[d];show zac t b
section
variable{bs ws:Á}{p:È}
noncomputable abbrev Fm:=Nat×Spt×Nat
abbrev flt(p:È)(F:zjc):Æ:=F.flatMap λf=>(nx p f.2.1).drop f.2.2
abbrev pth(F:zjc):Ã:=(F.map λf=>W.ref f.1).reverse
structure LI(p:È)(h:MH)(met:Æ)(F:zjc):Prop where
 d:h[0]?=Mc
 q:h[2]?=sO zv6
 f:∀f∈F,h[f.1]?=jE8 f/\f.1≠0/\f.1≠2/\f.2.2<=(nx p f.2.1).length/\Rc p f.2.1
 nd:(F.map (·.1)).Nodup
noncomputable abbrev aS(p:È)(a b:Û):MSt:=[ď,sO AE,sO ç,cg,a,b]
noncomputable abbrev tA:MT:=Qg (yp (ş w6))
def QhK(hg:Ϥ):∀(m n:Nat) (met out:Æ) (F:zjc) (h:MH) (a b:Û) (f:Nat),LI p h met F->zX3 (flt p F)->2*n+F.length<=m->m<f->qK2->F.length+n<=15000000 ->
  ∃M L h',Qo tA ZJ f zZc h=sO (ì (aS p M L) h')/\h'[0]?=sO (Ř rL):=by
 intro m
 induction m with
 |zero=>
  intro n met out F h a b f I d hm hf _ _;show ml
  show(zZj F (Dr (Nh uj hm) Ō),qa1)
 | succ m ih=>
  intro n met out F h a b f I d hm hf l1 l2;show ml
  cases F with
  |nil=>
   show qa1
  | cons fr F=>
   let#[i,s,c]:=fr;rw[NP]at hm l2;let#[E,i0,i2,hc,hs]:=I.f (i,s,c) NF;simp only at E i0 i2 hc hs;let u:=I.q;let hp:pth qG9=pth F++[Ä i]:=by simp[pth]
   rw[hp]at u;let#[_,_,_,_,en]:=QbY hg hs;let en:=λh=>lnN (h:=h) (en h);let C:tA zZc h=tw:=AJ u
   let nd:=I.nd;rw[Nw,Ei]at nd
   by_cases hz:c=kt
   ·-- back
    let hI:LI p (h.set 2 zv6) met F:=by
     refine#[?_,?_,Ó g l,nd.2]
     ·rw[Vj u,wA];show I.d
     ·rw[Vj u,Ĥ]
     ·let z:=qM3;refine#[?_,z.2];rw[Vj u,if_neg (λe=>z.2.2.1 e.symm)];show z.1
    let J:qyc=flt p F:=by simp[flt,hz]
    rw[J]at d;let#[M,L,h',e,Y]:=ih n met out F _ dm b f hI d Í Í l1 Í;refine zQ5;rw[ZI (σ2:=zB8 b) (h2:=h.set 2 zv6) C (by simp[u,E,en,hz]),e]
   ·-- on
    let y:c<kt:=Ð
    let ht:(nx p s)[c]?=sO zd8:=Nl y;let Q:Rc p zd8:=Qmt hg hs (Dw y);let X:(nx p s).drop c=zd8::(nx p s).drop (c+1):=Ek y;generalize zd8=t at ht Q X;let ae:atI zx zgc=sO HC:=by rw[QJ,Np,ht];rfl
    let J:qyc=t::qyd:=by simp[flt,X]
    rw[J]at d;let aa:¬zgc=kt:=Ð
    generalize v:h.set i jC4=w;let N:w[0]?=Mc:=by rw[<-v,Vj E,Õ i0];show I.d
    let g2:w[2]?=ztd:=by rw[<-v,Vj E,Õ i2];show u
    let gi:w[i]?=sO jC4:=by rw[<-v,Vj E,Ĥ]
    let gf:∀g∈F,w[g.1]?=jE8 g:=λg l=>by
     let z:=qM3;rw[<-v,Vj E,if_neg (λe=>nd.1 (by rw[show(i,s,c).1=i from rfl,e];show zac g l))];show z.1
    let ni:=Kt (s:=t) N
    let B:LI p w met (qxg::F):=by
     show Mz #[N,by rw[g2];simp[pth],Ó g l,I.nd] l
     show Ħ #[by rw[gi];simp,i0,i2,y,hs]
     show Ħ #[gf g l,(I.f g (jz l)).2]
    let pre:ZJ zZc h=Zd zBg jLd Qx (aS p dm vQ) w:=by
     rw[<-v];unfold ZJ;generalize Zd zBg jLd Qx=rest;simp[u,E,en,aa,ae]
    cases d with
    |@skip _ _ _ _ n x d=>
     let#[M,L,h',e,Y]:=ih n met out _ w dm vQ f B d zPi Í Í zPi;refine zQ5;rw[ZI (σ2:=zB8 vQ) (h2:=w) C (by rw[pre];simp[ni,x]),e]
    | @add _ _ _ _ n x d=>
     let pu:=UR (s:=t) N x (jrc l1);generalize H:w.set 0 (Ř qG6)=r at pu;let k0:r[0]?=sO (Ř qG6):=by rw[<-H,Vj N,Ĥ]
     let k2:r[2]?=ztd:=by rw[<-H,Vj N,wA];show g2
     let kf:∀(j:Nat) (o:MO),j≠0->w[j]?=sO o->r[j]?=sO o:=λj o hj e=>by rw[<-H,Vj N,qI3];show e
     let D:=XF k2;let Z:(r++jG0)[2]?=ztd:=zbc D k2
     let sl:(pth F).length+1<sizeLine:=szN (by simp[pth];lia);generalize A:(r++jG0).set 2 (MO.lst (pth F++[W.ref i]++[W.ref r.length]))=h3
     let ap:∀(j:Nat) (o:MO),r[j]?=sO o->j≠2->h3[j]?=sO o:=λj o e hj=>by
      rw[<-A,Vj Z,qI3,NC (XF e)];show e
     let ab:LI p h3 qxe qi1:=by
      refine#[ap 0 _ k0 Ñ,?_,Ó g l,?_]
      ·rw[<-A,Vj Z,Ĥ];simp[pth]
      ·show Ŧ l
       ·refine#[?_,by apply r.length≠0;show EB (N2 Ñ D),by apply r.length≠2;show EB D,NQ _,Q];rw[<-A,Vj Z,zub];simp
       ·let z:=B.f g l;show#[ap _ _ qOd (ϳ z),z.2]
      ·rw[Nw,Ei];refine#[ļ S,B.nd];let#[g,l,e]:=Bh S;let z:=B.f g l;let:=XF qOd;show(q8 e,OY (ī e) this)
     let U:flt p qi1=nx p t++qyd:=by simp[flt]
     rw[<-U]at d;let#[M,L,h',e,Y]:=ih n qxe out _ h3 dm vQ f ab d qOe Í qO9 qOe;refine zQ5;rw[ZI (σ2:=zB8 vQ) (h2:=h3) C ?_,e];rw[pre,<-A];simp[ni,x,pu,Z,sl,k2]
#print"-"
section
variable{bs ws:Á}{p:È}
def Qct(j:Ϥ)(d:zF0)(x:jf7)(h:MH):jVf:=by
 let u:Dfs p [sp0] (flt p xBd) n out:=by
  cases d with
  |skip h=>simp at h
  |add h d=>simpa[flt]using d
 let I:LI p [Ŏ zU6,À [Qf sp0,ux],À [Tn]] [sp0] xBd:=by
  refine#[rfl,rfl,Ó f o,Ç];show Bp o #[rfl,õ,õ,NQ _,rc0 j]
 let#[w,v,a,e,t]:=QhK j 2000000 n [sp0] out _ _ nO nO 20000000 I u u8 Ñ u8 u8;refine Qs (g:=a) Å ?_ (by simp[Qk2])
 let r:∀b,Qde gF Bu b []=sO (Ţ,[Ŏ zU6]):=λb=>by
  let m:=UR (met:=[]) (s:=sp0) (h:=jQ8) (n:=0) rfl Å Ñ;let c:∀h,(mFn Q1 (Qa zE8 zCj)) b h=sO (Qf sp0,h):=λh=>by simp[Qf]
  unfold Qde;rw[c,Nj];apply(J3 ç jfa qQ jQ8).map _=_;rw[m];rfl
 let c:Ya [Ţ] a=sO (À ε,a):=by
  let:Kb a ç=sO rL:=c5 t
  show qB8
 let l:Qo tA ZJ 20000000 [ď,sO AE,sO ç,cg,nO,nO] [Ŏ zU6,À [Î jG1,ux],À [Tn]]=sO (ì (aS p w v) a):=e;generalize q:Qo tA ZJ 20000000=i at l;simp only[Xa,QD,q];simp[r,l,c]
#print"-"
def K8{l:ä a}(h:l[i]?=sO x):i<l.length:=à h
def QiH{b:Type}{l:ä b}{a:b}{i j:Nat}(nd:l.Nodup)(h1:l[i]?=sO a)(h2:l[j]?=sO a):i=j:=by
 let d:=K8 h1;let c:=K8 h2;rw[Nl d]at h1;rw[Nl c]at h2;let e:l[i]=l[j]:=by rw[NZ h1,NZ h2]
 show(Il nd).mp e
def QoX{xs a:Ã}{h:MH}(b:zEf):Z3 yG wO h=sO (À zZg,h):=by
 apply(if zEf then sO (W.lst zZg,h)else nO)=_;rw[Ò b]
def Zj{a b:SM}{σ σ1:MSt}{h h1:MH}{f:Tb}(e:ĺ a=Ar σ1 h1)(c:b σ1 h1=f):zY8=f:=by
 unfold Qn;show ώ e c
def Qq4{a b:SM}{σ:MSt}{h h1:MH}{v:W}(e:ĺ a=AG h1):zY8=AG h1:=by
 unfold Qn;rw[e];rfl
def Qcm{m:SM}{σ:MSt}{h h1:MH}{v:W}(e:ĺ m=AG h1):QjL jj=zs8:=SC e
def QoQ{m:SM}{σ σ1:MSt}{h h1:MH}(e:ĺ m=Ar σ1 h1):QjL jj=iK h1:=SC e
def QK{m:ME}{σ:MSt}{h h1:MH}{v:W}{i:Nat}(e:zme):xyd=sO (ì zM7 h1):=by
 unfold QF;rw[e];rfl
def V0{t:MT}{a b:SM}{σ:MSt}{h h1:MH}{r:Tb}(e:ĺ t=BO h1)(c:b σ h1=r):zTj=r:=by
 unfold Zd;show ώ e c
noncomputable abbrev EE(p:È)(out:Æ):î:=yM
abbrev NG(p:È)(out:Æ)(S:Ì)(wd:Str)(e:ϩ):Prop:=wK->e.1∉S->¬Rch Cj S e.2 e.1
def Wk.mem(k:sE):∀x∈L,x∈ks FD:=by
 induction k with
 |first h=>intro x a;rw[ĳ a];show zI1
 |on h _ b=>
  intro x a
  show Ŧ a
  ·show zI1
  ·show b x a
section
variable{N:Nat}{bs ws:Á}{p:È}{out:Æ}{M:â}
def Qe7(A:é)(a:zW8)(h:qI2):Az:=by
 cases h with
 |here=>show a
 |step _ _ h=>show(Gv A ĕ _ h).2
def Qfd{v:Nat}(w:cE)(h:∀q∈ks FD,q<v):FD.length<=v:=by
 let:=Ve v (ks FD) w.nd h;unfold ks at this;show lm
def Qcn(A:é)(h:Az):ixS out Κ=q:=by
 let a:=Vs h;let b:=UE p4;rw[We a]at b;show QiH A.nd b (UE h)
noncomputable abbrev gwS(p:È)(M:â)(out:Æ)(x3 x4 x5 x6 x7 x8 x9 x10:Û):MSt:=[ď,sO Ι,sO (Ë qp2),x3,x4,x5,x6,x7,x8,x9,x10]
def Qgc{t:MT}{a b:SM}{σ:MSt}{h h1:MH}{r:Tb}(e:ĺ t=sO (true,h1))(c:a σ h1=r):zTj=r:=by
 unfold Zd;show ώ e c
abbrev GrT(p:È)(out:Æ)(S:Ì)(wd:Str)(w:W):Prop:=∃(e:ϩ) (La Lb:Ì),(e∈Ρ/\wK/\e.1∉S)/\(Ph Cj [] 0 e.1 La/\xj5)/\(Ph Cj S e.2 e.1 Lb/\xj6)/\w=Î [qf1,sP,À (La.map PB),À ((e.1::Lb).map PB)]
def Qlu(hg:Ğ)(A:é)(h0:CF)(C:∀s∈out,Bg)(b:Œ)(he:e∈Ρ){wd:Str}{s:Nat}{H:MH}(Z:H[s]?=wj){x9 x10:Û} :
  (∃B i R,cz S/\jR9=sO (ì (gwS p M out CZ Hj xg dj wR dk B i) (H++R))) \/
  ∃(w:W) (R:MH),ja7 w/\jR9=sO (.rt w (H++R)):=by
 let#[g,Y]:=Gv A ĕ e he;let hv:=(A.rc _ (Vs g)).v;let em:jW4:=λh=>KW hg hv
 let F:GT true dR (ý s) H=sO (jrg,H):=by
  let:Ye H (ý s)=sO Hk:=zV2 Z
  unfold GT;simp only[this,YH,Nj,N0,Qjb,if_true]
 by_cases o:wK
 ·rw [o]at em;let en:V1 (sO wd)=sP:=rfl;rw[en]at em
  by_cases n:l7
  ·show Bo #[x9,x10,[],λ_ z=>ϟ n z,?_];simp[em,F,n]
  ·let#[FD,wf,l,t]:=WJ (S:=S) A b Y;let t:=t H s Z
   let eI:GT false dR zoe jrj=sO (ñ (AK (e.1∈ks FD)),H++[Cr]):=by
    let:Ye jrj zoe=sO yy:=by simp[Ye]
    unfold GT;simp only[this,YH,Nj,N0,Qdt,Du,if_false]
   by_cases y:e.1∈ks FD
   ·let hk:∀q∈ks FD,Az:=λq a=>Qe7 A Y ((l q).mp a);let c:FD.length<=200:=Nh (Qfd wf hk) b;let#[F0,L,m,e0]:=WI A b (zji g);let j:∀q∈ks F0,Az:=λq a=>Qe7 A (zji g) ((m q).mp a);let d:xih:=Nh (Qfd L j) b
    let hz:e.1∈ks F0:=by
     let hm:=Vs g;let:=xv6 C;rw[Qcn A g]at this;show(m _).mpr this
    let#[La,wa,#[X,Q],ea]:=Qah L (ja d) hz;let#[Lb,wb,#[U,P],eb]:=Qah wf (ja c) y;let J:=e0 (H++zqj);let x:=ea jxa (H++zqj).length Å;let u:=eb jxa H.length Å;let e4:=λh=>XQ A La.reverse (λq a=>j q (wa.mem q xBe)) (by rw[Er];show Nt (ź (Nh X d))) h
    let I:=λh=>XQ A (e.1::Lb.reverse) (λq a=>by
     show Ŧ a
     ·show g
     ·show hk q (wb.mem q xBe)) (by rw[NP,Er];show Ni (Nh U c) Ñ) h
    let f:∀h,Z3 (Ë [.int (e.1:Nat)]) (Ë (Lb.reverse.map Q2)) h=sO (À ((e.1::Lb.reverse).map Q2),h):=λh=>by
     rw[QoX (by simp;show Nh (Ð:1+Lb.length<=1000) Ñ)];simp[Q2]
    show AT #[_,[Cr,f5],#[e,La.reverse,Lb.reverse,#[he,o,n],#[Q,by rw[Er];show Nh X d],#[P,by rw[Er];show Nh U c],rfl],?_];clear Q P;generalize La.reverse=La at x e4 ⊢;generalize Lb.reverse=Lb at u I f ⊢;let D:H++zqj++zQ=H++[MO.dic yy,MO.dic nX]:=Ç
    rw[D]at J x u;simp at J x u;rw[Nw]at I f;refine Qgc (h1:=H) qRh (Zj zk7 (Qgc (h1:=H++[Cr]) (by simp[eI,y]) (Zj (QK (v:=À (La.map Q2)) (h1:=H++[Cr,f5]) (by simp[J,x])) ?_)));simp[u,e4,f,I]
   ·show Bo #[sO zoe,x10,[Cr],λ_ _ z=>y ((l _).mpr z),?_];refine Qgc (h1:=H) qRh (Zj zk7 ?_);simp[eI,y]
 ·let ne:∀h,wEq (V1 zB7) j4 h=qo:=λh=>by
   cases z:qb2 with
   |none=>rfl
   |some w=>
    rw[z]at o;let:¬w=wd:=λe=>o (by rw[e]);show qGa h;rw[KP];simp[this]
  show Bo #[x9,x10,[],λz=>ϟ z o,?_];simp[em,ne]
abbrev GrW(p:È)(out:Æ)(M:â)(w:W):Prop:=∃(j:Nat) (a:Str),(Wds p)[j]?=sO a/\(∀b∈xj7,∀e∈Ρ,qY0 b)/\GrT p out (shL M out a) a w
def Qj1(Q:Ğ)(A:é)(h0:CF)(q:∀s∈out,Bg)(u:Œ){wd:Str}{s:Nat}{H:MH}(C:H[s]?=wj){x5 x6 x7 x8 x9 x10:Û} :
  (∃i g f d c a y,(∀e∈Ρ,cz S)/\jSc=sO (ì (gwS p M out CZ Hj i g f d c a) y)) \/
  ∃w y,ja7 w/\jSc=sO (.rt w y):=by
 let L:=W3 (items:=(EE p out).map gZ) (b:=QW zFh) (body:=ZC) (λj B h=>(∀e∈(EE p out).take j,cz S)/\∃i g f d c a R,B=gwS p M out CZ Hj i g f d c a/\h=H++R) (λv _=>ja7 v) qp2 0 (gwS p M out CZ Hj x5 x6 x7 x8 x9 x10) H #[Ç,_,_,_,_,_,_,[],rfl,Ç] (by
  rintro j w hw B h ⟨P,i,g,f,d,c,a,R,rfl,rfl⟩
  show PV e D;refine#[gwS p M out CZ Hj xg dj wR dk c a,rfl,?_];let o:(H++R)[s]?=wj:=zbc (K8 C) C
  rcases Qlu (M:=M) Q A h0 q u (Ej D) (wd:=wd) o (x9:=c) (x10:=a)with⟨X,J,F,m,t⟩|⟨v,F,n,t⟩
  ·show(Bo #[_,_,t,Ó U l,_,_,_,_,_,_,R++F,rfl,Ç],jn3 D l P U m)
  ·show ÿ #[_,_,t,n])
 rcases L with⟨I,E,x,m,i,g,f,d,c,a,R,rfl,rfl⟩|⟨v,E,x,n⟩
 ·show(lR m,đ #[i,g,f,d,c,a,_,m,qld])
 ·show ÿ #[v,E,n,qld]
def QfG(hg:u9)(U:jS)(A:é)(h0:CF)(Y:∀s∈out,Bg)(y:Œ)(hM:μ) :
  ∃w:W,(w=.non/\(∀wd∈Wds p,∀e∈Ρ,cz nw)\/GrW p out M w)/\∀h:MH,YK Tx h=yo:=by
 let es:=λh=>UM A h;let ew:=λh=>YE hg U h
 let lp:=W3 (items:=zQ0) (b:=QM 3) (body:=VP) (λj σ _=>(∀wd∈xj7,∀e∈Ρ,cz nw)/\∃P B n m l i d a,σ=gwS p M out P B n m l i d a) (λv _=>zU9) Cg 0 (gwS p M out nO nO nO nO nO nO nO nO) [] #[Ç,_,_,_,_,_,_,_,_,rfl] (by
  rintro j w hw σ h ⟨X,P,B,n,m,l,i,d,a,rfl⟩
  rw[Np]at hw;let#[wd,o,rfl]:=ji6;refine#[gwS p M out CZ B n m l i d a,rfl,?_];let eg:=Qdp (M:=M) A y hM (w:=wd) h;let hs:(h++[ϲ qtf])[h.length]?=sO (jv qtf):=Ç
  rcases Qj1 (M:=M) hg A h0 Y y (wd:=wd) hs (x5:=n) (x6:=m) (x7:=l) (x8:=i) (x9:=d) (x10:=a)with⟨z5,z6,z7,z8,z9,L,H',I,t⟩|⟨v,H',J,t⟩
  ·show Bo #[gwS p M out CZ jj4 z5 z6 z7 z8 z9 L,H',?_,Ó w' u,_,_,_,_,_,_,_,_,rfl]
   ·show qV5
   ·show jn3 o u X w' I
  ·rw[NO]at X;show AT #[v,H',?_,j,wd,o,X,J]
   show qV5)
 let ei:∀(S Q H F E D C c:Û),Qm nF (gwS p M out S Q H F E D C c) []=sO (zQ0,nO,[]):=λS Q H F E D C c=>by
  let:(Qh 1 Je qj) (gwS p M out S Q H F E D C c) []=sO (À Cg,[]):=by simp[ew]
  unfold Qm;show Ο
 show qif x
 rcases lp with⟨aa,Z,el,I,P,B,n,m,l,i,d,a,rfl⟩|⟨v,Z,el,J⟩
 ·let ef:=jZg;show lR I;refine#[.non,ß (ϊ I),λh=>zR2 Z x];show Qcm (Zj xbj (Zj ef rfl))
 ·let ef:=jZg;refine#[v,ô J,λh=>Qs (g:=Z) x ?_ ?_]
  ·show Qcm (Zj xbj (Qq4 ef))
  ·let#[_,_,_,_,e,La,Lb,_,_,_,rfl]:=J;show jyc
#print"-"
section
variable{p:È}{out:Æ}{M:â}
def mem_shL:q∈zZa↔Az/\w∈ř Κ:=by
 unfold shL;rw[EM,Ep,decide_eq_true_eq]
def mem_wa{E:î}{q m:Nat}:q∈wa E m↔(q,m)∈E:=by
 unfold wa;rw[Ny];constructor
 ·rintro⟨e,a,rfl⟩
  let#[c,b]:=EM.mp a;let:e.2=m:=ø b
  rw[<-this];show c
 ·intro h;show#[(q,m),EM.mpr #[h,Ç],rfl]
structure Kp(p:È)(out:Æ)(M:â)(n:Nat)(al:vx):Prop where
 nd:(al.map (·.2)).Nodup
 md:∀x∈al,mdS p (sq out x.2)=sO x.1
 rc:∀x∈al,∃m,(x.2,m)∈Ρ/\Rch zT (shL M out x.1) m n
abbrev QbG(p:È)(out:Æ)(M:â):Prop:=∀a,∀e∈Ρ,qY0 a
abbrev nxt(p:È)(out:Æ)(M:â)(q:Nat)(a:vx):vx:=(a.filter (ju x zs6))++(mdS p Κ).toList.map λw=>(w,q)
def Qqx{n:Nat}:Kp p out M n []:=#[Ç,Ç,Ç]
def Qph(A:é)(o:AB){q n:Nat}{h:vx}(k:Kp p out M q h)(i:(q,n)∈Ρ):Kp p out M n (nxt p out M q h):=by
 let v:=xf6 i
 let keep:∀x∈h.filter (λx=>decide zs6),x∈h/\q∉shL M out x.1:=λx c=>by
  let#[f,d]:=EM.mp c;let d:x.1∉ř Κ:=ø d
  show#[f,λz=>d (mem_shL.mp z).2]
 refine#[?_,Ÿ c,Ÿ c]
 ·unfold nxt;rw[NU,Eh];refine#[Ybi (Od.map _) k.nd,?_,?_]
  ·cases zL0<;>simp
  ·intro a t b s;show(Ż x c t,Ż y r s,zt3 r);let hw:zL0=sO w:=by simpa using hw
   intro e;let e:x.2=q:=e;show xv7;let g:=k.md x f;rw[e,hw]at g;let j:w=x.1:=NZ g;let#[m,l,u]:=k.rc x f;rw[e]at l;show o x.1 (q,m) l (by rw[hw,j]) d u
 ·show Λ c
  ·show k.md x (keep x c).1
  ·show zt3 c;simpa using hw
 ·show Λ c
  ·show xv7;let#[m,g,j]:=k.rc x f;show#[m,g,.step j d i]
  ·show(zt3 c,#[n,i,.here])
def Qqj(A:é){n:Nat}{a:vx}(k:Kp p out M n a):a.length<=out.length:=by
 let:=Ve out.length (a.map (·.2)) k.nd λx c=>by
  show Ż y b c;let#[m,d,_]:=k.rc y b;show(Gv A ĕ _ d).1
 show lm
abbrev cnt(W:Á)(a:vx):Nat:=(a.filter (ju x (x.1∈W))).length
def QlS{q:Nat}{a:vx}{k:Ky}:((cnt k.2 (nxt p out M q a):Nat):Int)=cnt (ask p out M k q).1.2 a+zF6:=by
 unfold cnt nxt ask;rw[DM,NH,Ybj]
 let d:(a.filter (jw x (decide xo2&&decide zs6)))=a.filter (ju x (x.1∈qp1)):=by
  refine xv8;rw[Ew];simp[lf]
 rw[d]
 let b:(((((mdS p Κ).toList.map λw=>(w,q)).filter (ju x xo2)).length:Nat):Int)=qn3:=by
  cases zL0 with
  |none=>simp[moI,inO]
  |some w=>by_cases c:w∈k.2<;>simp[moI,inO,c]
 rw[<-b];simp
inductive Der(p:È)(out:Æ)(M:â):Ky->jda where
 |zero (k:Ky):Der p out M k 0
 |up {k:Ky} {q:Nat} {v:Int} (h:Der p out M bA v) (hq:q∈RZ):Der p out M k (v+zF6)
def Qqn(A:é)(b:AB){k:Ky}{v:Int}(d:zR3):∃a,Kp p out M k.1 a/\(cnt k.2 a:Int)=v:=by
 induction d with
 |zero k=>show#[[],Qqx,rfl]
 |@up k q v d e c=>
  show ϋ a g f c;refine#[nxt p out M q a,Qph A b g (mem_wa.mp e),?_];rw[QlS,f]
def QnD(A:é)(c:AB){k:Ky}{v:Int}(d:zR3):0<=v/\v<=out.length:=by
 let#[b,g,a]:=Qqn A c d;let f:=Qqj A g;let e:cnt k.2 b<=b.length:=E2 _ _;constructor
 ·rw[<-a];show Yba _
 ·rw[<-a];show LN.mpr (Nh e f)
#print"-"
structure KeyE{κ:Type}(ek:κ->W)(et:κ->Tr):Prop where
 nr:∀k,nrm (ek k)=sO jfb
 inj:∀a b,et a=et b->a=b
structure MM{κ ι:Type}(ek:κ->W)(eo:ι->MO)(h:MH)(T:Nat)(G:fY):Prop where
 d:h[T]?=sO (Ř (G.map zH7))
 o:∀e∈G,h[e.2.1]?=sO (eo e.2.2)
 nd:(T::G.map (·.2.1)).Nodup
 kd:(G.map (·.1)).Nodup
section
variable{κ ι:Type}{ek:κ->W}{et:κ->Tr}{eo:ι->MO}{h h':MH}{T:Nat}{G:fY}
open Classical in
abbrev gAt(G:fY)(k:κ):Option (Nat×ι):=(G.find? (u0 e k)).map (·.2)
def Xq{k:κ}{q:Nat×ι}(e:zog):(k,q)∈G:=by
 classical
 unfold gAt at e;show A4 r a e;let d:=List.find?_some a;let c:=Fw a;let b:r.1=k:=of_decide_eq_true d;rw[<-b];show c
def Qby{k:κ}(e:Td=nO):∀r∈G,r.1≠k:=λr a z=>by
 classical
 unfold gAt at e;rw[D4,Dx]at e;show e r a (decide_eq_true z)
def Qjw(K:KeyE ek et)(k:κ):Xi (G.map λe=>js1) jfb=(gAt G k).map λq=>zi4:=by
 classical
 unfold Xi gAt
 induction G with
 |nil=>rfl
 | cons e G a=>
  show xp c e k
  ·let:decide qqa=true:=by rw[K.nr,c];simp
   simp only[this,ϗ c];rfl
  ·let:decide qqa=false:=by rw[K.nr];show Hw c (K.inj _ _ z)
   simp only[this,ϔ c];show a
def MM.frame(M:gD)(e:∀a∈T::G.map (·.2.1),BD):rM h' G:=
 #[by rw[e T NF];show M.d,λx b=>by rw[e _ (jz (EO b))];show M.o x b,M.nd,M.kd]
def MM.lt(M:gD):∀a∈T::G.map (·.2.1),vK:=λa b=>by
 show Ŧ b
 ·show(Nd.mp M.d).1
 ·show(Ż e c b,lL (M.o e c))
def Qy{o:MO}{a b:Nat}(c:b<h.length):(h.set b o)[a]?=if b=a then sO o else h[a]?:=by
 rw[FW];split
 ·show jeb;first|rfl|rw[Ò c]
 ·rfl
open Classical in
abbrev Qa0(G:fY)(k:κ)(f:lI):fY:=G.map λe=>if e.1=k then(e.1,e.2.1,f e.2.2)else e
def Qa8(k:κ)(f:lI):(Qa0 G k f).map (·.1)=G.map (·.1):=by
 classical
 show zyg
def QaN(k:κ)(f:lI):(Qa0 G k f).map (·.2.1)=G.map (·.2.1):=by
 classical
 show zyg
def Qm8(k:κ)(f:lI):(Qa0 G k f).map (λe=>js1)=G.map zH7:=by
 classical
 show zyg
def MM.upd(M:gD){k:κ}{i:Nat}{x:ι}(f:lI)(e:Td=Ď i x):rM (h.set i (eo (f x))) xo3:=by
 classical
 let m:=Xq e;let s:=M.lt i (jz (Sy (ϖ m)))
 let v:i≠T:=λz=>by
  let:=xja;show this (Sy #[_,m,z])
 refine#[?_,Ó r u,by rw[QaN];show M.nd,xv9 M]
 ·rw[Qy s,Õ v,Qm8];show M.d
 ·unfold Qa0 at u;show Ż q n u
  show AN c q
  ·let:q=(k,i,x):=by
    let:=M.kd;show jLe;let l:(G.map (·.1))[a]?=sO k:=by rw[Np,j];show ji8 c
    let t:(G.map (·.1))[b]?=sO k:=Sn g
    let:a=b:=(OG (à l) M.kd).mp (Hl l t);show(xB2,NZ g)
   subst this;rw[Ò c];apply(h.set i _)[i]?=_;rw[Qy s,Ĥ]
  ·rw[Õ c]
   let p:i≠q.2.1:=λz=>c (by
    show jLe;let nd:=(Ei.mp M.nd).2;let l:(G.map (·.2.1))[a]?=sO i:=by rw[Np,j];show congrArg sO z.symm
    let t:(G.map (·.2.1))[b]?=sO i:=Sn g
    let:a=b:=(OG (à l) nd).mp (Hl l t);show xB2;rw[NZ g])
   rw[Qy s,Õ p];show M.o q n
def MM.new(M:gD){k:κ}{n:Nat}{x:ι}(e:Td=nO)(l:h[n]?=sO (eo x))(j:n∉T::G.map (·.2.1)):rM (h.set T (Ř ((G++[(k,n,x)]).map zH7))) (G++[(k,n,x)]):=by
 let i:=M.lt T NF;let g:=xja;refine#[P6 i,Ó r c,?_,?_]
 ·show Λ c
  ·let:T≠r.2.1:=ϴ g (by rw[z];show EO c);rw[Qy i,xBg];show M.o r c
  ·rw[ĳ c];let:T≠n:=ϴ j (za2 z);rw[Qy i,xBg];show l
 ·rw[NU,<-O2,Eh]
  show#[M.nd,Ç,λa f b d z=>j (by
   let:b=n:=ø d
   rw[<-this,<-z];show f)]
 ·rw[NU,Eh];refine#[M.kd,Ç,λa f b d z=>?_];let:b=k:=ø d
  subst this;subst z;let#[r,c,hk]:=Bh f;show Qby e r c hk
#print"-"
section
variable{κ ι:Type}{ek:κ->W}{et:κ->Tr}{ei:ι->W}{h:MH}{T:Nat}{G:jDa}
abbrev eoL(ei:ι->W)(l:ä ι):MO:=À (l.map ei)
#print"-"
def kyK:KeyE Qu trK:=#[λ_=>W9,λ_ _ h=>QaE h]
section
variable{α:Type}
abbrev tb(f:α->W)(L:cb):ϙ:=L.map λe=>(zj0,f e.2)
abbrev tv(L:cb)(k:Ky):Δ α:=(L.find? (u0 e k)).map (·.2)
abbrev tu(L:cb)(k:Ky)(v:α):cb:=if zoh then L.map (λe=>qV e v)else L++jc7
variable{f:α->W}{L:cb}{k:Ky}{v:α}{h:MH}{n:Nat}
def Qed:Xi rP ji4=(tv L k).map f:=by
 unfold Xi tb tv
 induction L with
 |nil=>rfl
 |cons e L a=>
  show xp c e k
  ·simp[c,W9]
  ·let:¬trK e.1=trK k:=ϴ c (QaE z);show xnh W9 c
def QpR:US rP ji4 ϭ (f v)=tb f zZd:=by
 unfold US tu;rw[Qed,Fo]
 by_cases c:zoh
 ·rw[Ò c,Ò c];unfold tb;rw[Ec,Ec];refine xva;simp only[Function.comp,W9,F3]
  show AN d e
  ·rw[if_pos (by rw[d]),Ò d]
  ·rw[if_neg (λz=>d (QaE z)),Õ d]
 ·rw[Õ c,Õ c];simp[tb]
def Qrr{g:Bool}(a:zMd):Wa g ϭ Ε h=sO (ñ (if g=true then ! zFj else zFj),h):=by
 let:r9=sO rP:=c5 a
 unfold Wa;simp only[this,W9,Nj,N0,Qed,Fo]
def Qcp(b:zMd)(a:jB L=sO v):Vu Ε ϭ h=sO (f v,h):=by
 let:r9=sO rP:=c5 b
 unfold Vu;simp only[this,W9,Nj,Qed,a,N0]
def Qbb(a:zMd)(b:xH):J3 Ε ϭ (f v) h=sO (Hq (Ř (tb f zZd))):=by
 unfold J3;simp only[a,W9,Nj,QpR];show Ŵ (by unfold tb;rw[Nq];show b)
def QjI(a:zoi):tu L k v=L++jc7:=by unfold tu;rw[a];rfl
def tv_none:zoi↔k∉L.map (·.1):=by
 unfold tv;rw[D4,Dx];simp only[decide_eq_true_eq,Ny,not_exists,not_and]
def V8(h:k∈L.map (·.1)):∃v,jB L=sO v:=by
 cases c:jB L with
 |none=>show č h (tv_none.mp c)
 |some v=>show p8 v
def WG(a:k∈L.map (·.1)):(tu L k v).map (·.1)=L.map (·.1):=by
 let#[w,hw]:=V8 a;unfold tu;rw[hw];simp only[Option.isSome_some,if_true,Ec];refine xva;show qI4
def XC{k':Ky}:tv zZd k'=if k'=k then sO v else tv L k':=by
 unfold tu
 by_cases c:zoh
 ·rw [Ò c];let#[w,hw]:=FA.mp c
  let key:∀(L:cb),tv (L.map λe=>qV e v) k'=if k'=k then(tv L k').map (λ_=>v)else tv L k':=by
   intro L
   induction L with
   |nil=>simp[tv]
   | cons e L b=>
    unfold tv at b ⊢;show xp d e k'
    ·show AN a e
     show qV6 d a
     ·let:¬k'=k:=MX a d;simp[d,this]
    ·show AN a e
     ·let j:¬k=k':=MX d a;simp only[a,if_true,j,decide_false];show b
     ·simp only[a,if_false,d,decide_false];show b
  rw[key]
  show Ě d k' k
  ·subst d;rw[Ĥ,Ĥ,hw];rfl
  ·rw[Õ d,Õ d]
 ·rw[Õ c];let g:zoi:=ø c
  unfold tv at g ⊢;rw[Ybv]
  show Ě d k' k
  ·subst d;rw[D4]at g;rw[g];simp
  ·let:[(k,v)].find? (λe=>decide (e.1=k'))=nO:=by
    rw[Dx];intro x i;rw[ĳ i];simp;show λz=>d z.symm
   rw[this,Option.or_none,Õ d]
def Qn2(a:k∈L.map (·.1)):(tu L k v).length=L.length:=by
 let:=zP1 (WG (v:=v) a);show Av
#print"-"
abbrev kO:jfc->W
 |è k=>Qu k
 |none=>.non
noncomputable abbrev GA:=List (Ky×Nat×œ)
noncomputable abbrev lsF(b a c:Nat):ž W:=[("numbers",Ä b),("risen_by",Ä a),("askers",Ä c)]
structure LsH(C:Addr)(h:MH)(r aN aR aA:Nat)(D:œ)(B:jM)(G:GA):Prop where
 i:h[r]?=sO zF5
 n:h[aN]?=sO (Ř (tb W.int D))
 b:h[aR]?=sO (Ř (tb kO B))
 g:qRi h
 d3:r≠aN/\r≠aR/\aN≠aR
 dg:∀a∈aA::G.map (·.2.1),a≠r/\zl7/\zl8
 kd:G.map (·.1)=D.map (·.1)
 kb:B.map (·.1)=D.map (·.1)
noncomputable abbrev fpL(r b a c:Nat)(G:GA):Ì:=r::b::a::c::G.map (·.2.1)
section
variable{C:Addr}{h:MH}{r aN aR aA:Nat}{D:œ}{B:jM}{G:GA}
def XE{fs:ž W}{f:Str}{v:W}(e:h[r]?=zSi)(b:zua):Jp C f yn h=Ď v h:=by
 let a:zL3=sO fs:=by
  unfold QbS;show jA e;simp
 unfold Jp;rw[a,Nj,b];rfl
def LsH.fld(H:ŷ):Jp C "numbers" yn h=xjb/\Jp C "risen_by" yn h=sO (.ref aR,h)/\Jp C "askers" yn h=sO (.ref aA,h):=by
 let a:zL3=sO qp3:=by
  unfold QbS;simp only[H.i];simp
 unfold Jp;show ώ a xJ
def LsH.nod(H:ŷ):(D.map (·.1)).Nodup:=H.kd▸H.g.kd
def LsH.len(H:ŷ):G.length=D.length/\B.length=D.length:=by
 let b:=xc0 H;let a:=congrArg List.length H.kb;simp at b a;show C6 b a
def LsH.lt(H:ŷ):∀a∈Cn,vK:=λa c=>by
 show Ŧ c
 ·show(Nd.mp H.i).1
 ·show Ŧ c
  ·show(Nd.mp H.n).1
  ·show Ŧ c
   ·show(Nd.mp H.b).1
   ·show H.g.lt a c
def LsH.frame{h':MH}(H:ŷ)(e:∀a∈Cn,BD):Ϻ h' D B:=
 #[by rw[e r Å];show H.i,by rw[e aN Å];show H.n,by rw[e aR Å];show H.b,H.g.frame λa c=>e a (by show Tp c;rcases c with rfl|c<;>simp[*]),H.d3,H.dg,H.kd,H.kb]
def Qff{mo mi mv:ME}{σ:MSt}{h h1 h2 b a:MH}{o i v:W}(f:zo0)(e:mo σ h1=Ď o h2)(d:mi σ h2=Ď i b)(c:J3 o i v b=sO a):xbc=Ar σ a:=by
 unfold V3;rw[f,Nj,e,Nj,d,Nj,c];rfl
def un9{f:W->qF}{m:ME}{σ:MSt}{h h1:MH}{x:W}{r:Þ}(e:zsj)(a:f x h1=r):mUn f m σ h=r:=by
 unfold mUn;show ώ e a
def K3{f:Tw}{a b:ME}{σ:MSt}{h h1 h2:MH}{x y:W}{r:Þ}(d:ĺ a=Ď x h1)(c:b σ h1=Ď y h2)(e:f x y h2=r):Qe f a b σ h=r:=by
 unfold Qe;rw[d,Nj,c];show e
def Qds(H:ŷ){k:Ky}(hk:k∉D.map (·.1))(A:D.length<1000000) :
  ∃h',Q7 C [Ä r,Qu k] h=iK h'/\LsH C h' r aN aR aA qth qqj (G++zGi)/\h'.length=jb1/\∀a,js2:=by
 let#[l1,l2]:=H.len;let z:t9:=N2 A Ñ;let hN:=qE9;let F:=qEa;let w:=H.lt r Å;let hA:=H.lt aA Å;let#[Z,Y,X]:=H.d3;let J:=H.dg aA Å;let vn:jB D=nO:=tv_none.mpr hk;let vb:jB B=nO:=tv_none.mpr (by rw[H.kb];show hk)
 let M:Td=nO:=by
  cases c:Td with
  |none=>rfl
  |some q=>show absurd (by rw[<-H.kd];show xjc c) hk
 let Q:J3 xBi ϭ zj h=sO (h.set aN zvg):=by
  let:=Qbb (f:=W.int) (k:=k) (v:=0) H.n z;rw[QjI vn]at this;show this
 generalize u:h.set aN zvg=m at Q;let g1:∀a,m[a]?=if aN=a then sO zvg else h[a]?:=λa=>by rw[<-u,Qy hN]
 let L1:m.length=h.length:=by rw[<-u,Eo]
 let S:m[r]?=sO zF5:=by rw[g1,A9 Z];show H.i
 let P:J3 xBj ϭ .non m=sO (m.set aR zvh):=by
  let:=Qbb (f:=kO) (k:=k) (v:=nO) (h:=m) (n:=aR) (L:=B) (by rw[g1,Õ X];show H.b) (j7 l2 z);rw[QjI vb]at this;show this
 generalize t:m.set aR zvh=o at P;let g2:∀a,o[a]?=if aR=a then sO zvh else m[a]?:=λa=>by rw[<-t,Qy (j7 L1 F)]
 let l:o.length=h.length:=by rw[<-t,Eo,L1]
 let i2:(o++dH)[r]?=sO zF5:=by rw[NC (j7 l w),g2,A9 Y];show S
 let M1:qRi jrh:=H.g.frame λa j=>by
  let hd:=H.dg a j;rw[NC (by rw[l];show H.g.lt a j),g2,if_neg (N8 hd.2.2),g1,if_neg (N8 hd.2.1)]
 let p:(o++dH)[h.length]?=sO (eoL Yw ([]:œ)):=by rw[<-l];simp[eoL]
 let E:h.length∉aA::G.map (·.2.1):=c7 q (H.g.lt _ q);let M2:=M1.new (k:=k) (n:=h.length) (x:=[]) M p E
 let N:J3 jc5 ϭ MU jrh=sO ((o++dH).set aA (Ř jui)):=by
  let U:=Qjw (G:=G) kyK k;rw[M,LS]at U;unfold J3;simp only[M1.d,W9,Nj];show Ŵ (by rw[Nq,l1];show z);unfold US;rw[U];simp
 generalize s:(o++dH).set aA (Ř jui)=I at N M2;let g3:∀a,a≠aA->vK->I[a]?=o[a]?:=λa j A=>by rw[<-s,Qy (by simp[l];show E4 hA),A9 j,NC (j7 l A)]
 refine#[I,?_,#[?_,?_,?_,M2,H.d3,?_,?_,?_],by rw[<-s,Eo,NH,l];rfl,Ú a j y]
 ·unfold Q7 QD;refine QoQ (σ1:=[Ty,sO ϭ]) (h1:=I) ?_;refine Zj (Qff (v:=ux) (h1:=h) rfl (un9 rfl H.fld.1) rfl Q) ?_;refine Zj (Qff (v:=.non) (h1:=m) rfl (un9 rfl (XE S rfl)) rfl P) ?_;refine Qff (v:=ģ) (h1:=o++[ő]) ?_ (un9 rfl (XE i2 rfl)) rfl N;rw[<-l];rfl
 ·rw[g3 r (N8 J.1) w,g2,A9 Y,g1,A9 Z];show H.i
 ·rw[g3 aN (N8 J.2.1) hN,g2,A9 X,g1,Ĥ]
 ·rw[g3 aR (N8 J.2.2) F,g2,Ĥ]
 ·intro a j;rw[NU,<-O2]at j
  show Λ j
  ·show H.dg a j
  ·let:a=h.length:=ø j
   show yY #[EB w,EB hN,EB F]
 ·simp[H.kd]
 ·simp[H.kb]
 ·let n1:a≠r:=oQ;let n2:zl7:=oQ;let n3:zl8:=oQ;let n4:a≠aA:=oQ;rw[g3 a n4 y,g2,A9 n3,g1,A9 n2]
#print"-"
abbrev gL(G:GA)(k:Ky):œ:=match Td with
 |è q=>q.2
 |none=>[]
def G1{G:GA}{k:Ky}(h:k∈G.map (·.1)):∃q,zog:=by
 cases e:Td with
 |some q=>show p8 q
 |none=>
  let#[r,a,z]:=Bh h;show č z (Qby e r a)
def Qbg{G:GA}{k k':Ky}{n:Nat}(e:Td=nO):gL qY1 k'=gL G k':=by
 let:gAt qY1 k'=(gAt G k').or (if k=k' then sO (n,[])else nO):=by
  classical
  unfold gAt;rw[Ybv,Option.map_or];congr 1
  show Ě c k k'
  ·simp[c]
  ·simp[c]
 unfold gL;rw[this];cases z:gAt G k' with
 |some q=>rfl
 |none=>
  show Ě c k k'
  ·rw[Ò c];rfl
  ·rw[Õ c];rfl
section
variable{κ ι:Type}{G:jDa}
open Classical in
def QlW{k k':κ}(f:ä ι->ä ι):gAt xo3 k'=(gAt G k').map λq=>(q.1,if k'=k then f q.2 else q.2):=by
 classical
 unfold gAt Qa0
 induction G with
 |nil=>rfl
 | cons e G a=>
  show xp c e k'
  ·show AN d e
   show qV6 c d
   ·let:k'≠k:=MX d c;simp[c,d,this]
  ·show AN d e
   ·let b:¬k=k':=MX c d;simp[c,d,b];show jx a
   ·simp[c,d];show jx a
#print"-"
def QpW{G:GA}{k k':Ky}{v v':BV}(a:(gAt G k).isSome=true):v'∈gL (Qa0 G k (·++[v])) k'↔v'∈gL G k'\/(k'=k/\v'=v):=by
 let:=QlW (G:=G) (k:=k) (k':=k') (·++[v]);unfold gL;rw[this]
 show Ě c k' k
 ·subst c;let#[q,b]:=FA.mp a;rw[b];simp
 ·cases gAt G k' with
  |none=>simp[c]
  |some q=>simp[c]
section
variable{C:Addr}{h:MH}{r aN aR aA:Nat}{D:œ}{B:jM}{G:GA}
def LsH.ixA(H:ŷ){k:Ky}{q:Nat×œ}(a:zog):Vu jc5 ϭ h=sO (zi4,h):=by
 let:Kb h jc5=sO (G.map λe=>(zj0,.ref e.2.1)):=by simp only[Kb,H.g.d]
 unfold Vu;simp only[this,W9,Nj,Qjw kyK,a,N0]
def Qkg{σ:MSt}{mo mk mv:ME}{k:Ky}{v:BV}(H:ŷ)(hk:k∈D.map (·.1))(hz:∀e∈G,jQ9)(s:qx1)(t:mk σ h=xC0)(p:∀h,qWc=sO (Yw v,h)) :
  ∃h',QS (ł (Qe Vu qp4 mk) (Qa mv Qc)) σ h=Ar σ h'/\LsH C h' r aN aR aA D B (Qa0 G k (·++[v]))/\xy/\∀a,MJ->BD:=by
 let#[q,f]:=G1 (G:=G) (k:=k) (xC1 H);let j:=Xq f;let c:q.1∈G.map (·.2.1):=Ny.mpr (ϖ j);let l:h[q.1]?=zu3:=H.g.o _ j;let d:q.1<h.length:=à l;let u:=(K3 (un9 s H.fld.2.2) t (H.ixA f):Qe Vu qp4 mk σ h=sO (zi4,h));let#[y,x,w]:=H.dg q.1 (jz c);refine#[h.set q.1 (eoL Yw (q.2++[v])),?_,#[?_,?_,?_,H.g.upd (·++[v]) f,H.d3,by rw[QaN];show H.dg,xv9 H,H.kb],Eo ..,Ó a m]
 ·let hz:=hz _ j;unfold QS mMt;rw[u,Nj];simp[tyW,l,Qa,Qc,p,Qp,hz,eoL]
 ·rw[Qy d,Õ y];show H.i
 ·rw[Qy d,Õ x];show H.n
 ·rw[Qy d,Õ w];show H.b
 ·rw[Qy d,if_neg λz=>m (by rw[<-z];show NS [r,aN,aR,aA] c)]
#print"-"
structure KOk(p:È)(out:Æ)(k:Ky):Prop where
 n:xii
 w:k.2.Sublist ji3
def Qps(A:é){M:â}{k:Ky}{q:Nat}(h:cF)(a:q∈RZ):KOk p out bA:=
 #[xf6 (mem_wa.mp a),Od.trans h.w]
def Qi4{c:Type}[BEq c][LawfulBEq c]:∀(a b:ä c),qfd:=λa=>by
 induction a with
 |nil=>show λb _ _=>NQ _
 |cons k r f=>
  show(jnc d f e,Nh xC2 (Nv (Nat.sub_add_cancel (Lr hk))))
set_option backward.eqns.deepRecursiveSplit false in
abbrev Qne{a:Type}:ä a->List (HP a)
 |[]=>[[]]
 |x::l=>Qne l++(Qne l).map (x::·)
def QiE{d:Type}{a b:ä d}(h:a.Sublist b):a∈Qne b:=by
 induction h with
 |slnil=>show Nz.mpr rfl
 |cons x _ c=>show y9 c
 |cons_cons x _ c=>show NS _ (EO c)
def Qiz{a:Type}(l:ä a):(Qne l).length=2^l.length:=by
 induction l with
 |nil=>rfl
 |cons x l b=>rw[Qne,NH,Nq,b,NP,Nat.pow_succ,Nat.mul_two]
def Qdc{c b:Type}(l:ä c)(m:ä b):(l.flatMap λa=>m.map (a,·)).length=l.length*m.length:=by
 induction l with
 |nil=>simp
 |cons x l d=>rw[Lj,NH,d,Nq,NP,O5,D6]
def Qa2{K:Ĳ}(b:Œ)(hw:ua)(nd:K.Nodup)(c:∀k∈K,cF):ue:=by
 let:=Qi4 K ((List.range out.length).flatMap λa=>(Qne ji3).map (a,·)) nd λk hk=>
  DI.mpr #[k.1,Ep.mpr (c k hk).n,Ny.mpr #[k.2,QiE (c k hk).w,rfl]]
 rw[Qdc,Fl,Qiz]at this;show Nh this (Ia b (Nat.pow_le_pow_right (n:=2) Ñ hw:2^xic<=32))
abbrev lT(n0:Nat)(kw:W)(r:Nat)(x3 x4 x5 x6:Û):MSt:=[sO (ý n0),sO kw,Ty,x3,x4,x5,x6]
def Qkp{C:Addr}{m:Str}{n r:Nat}{g:FM}{mo:ME}{ms:MA}{σ:MSt}{h h1:MH}{fs:ž W}{as:Ã}{res:Þ}(b:qx1)(ei:h[r]?=zSi)(c:zna)(e:zJa)(en:as.length+1=n)(d:g (Ä r::as) h1=res):Gh C m n g mo ms σ h=res:=by
 let a:zL3=sO fs:=by
  unfold QbS;simp only[ei];simp
 unfold Gh;rw[b,Nj];simp only[a,Nj,c,Option.isNone_none,if_true,e];show Ŵ (by simpa using en);show d
def G3{m:ME}{σ:MSt}{h h1:MH}{v:W}(e:zme):QS m σ h=Ar σ h1:=by
 unfold QS;rw[e];rfl
noncomputable abbrev zD(K:Ĳ):œ:=K.map λk=>(k,0)
noncomputable abbrev zB(K:Ĳ):jM:=K.map λk=>(k,nO)
def Kj{K:Ĳ}:(zD K).map (·.1)=K:=by rw[Ec];show Oj _
structure BgI(p:È)(out:Æ)(M:â)(C:Addr)(r aN aR aA wl n0:Nat)(hA:MH)(X K Wt:Ĳ)(G:GA)(c:Nat)(h:MH):Prop where
 L:Ϻ h uT lB
 w:qle
 wf:zoj
 a:∀x,x<r->h[x]?=hA[x]?
 af:∀x∈Cn,r<=x
 aw:r<=wl
 ko:∀k∈K,cF
 wn:Wt.Nodup
 wk:∀k∈Wt,k∈K
 xw:∀k∈X,k∈K/\k∉Wt
 sd:jAf
 vk:jG2
 sz:∀e∈G,qK5<=c
 cp:∀k∈K,k∉Wt->k∉X->∀q∈RZ,jWj
section
variable{p:È}{out:Æ}{M:â}{C:Addr}{r aN aR aA wl n0:Nat}{hA:MH}{X K Wt:Ĳ}{G:GA}{c:Nat}{h:MH}
def BgI.few(I:BgI p out M C r aN aR aA wl n0 hA X K Wt G c h)(a:Œ)(hw:ua):ue:=Qa2 a hw (by let:=I.L.nod;rwa[Kj]at this) I.ko
def Qqm(I:BgI p out M C r aN aR aA wl n0 hA X K Wt G c h)(u:c<10000000){key:Ky}{q:Nat}(hk:uR)(t:qvh)(j:Ź∈K){kw:W} :
  ∃i h',QS (ł (Bj (qL1 å) Ģ) jDj) zs7 h=sO jV6 /\
   BgI p out M C r aN aR aA wl n0 hA X K Wt i (c+1) h'/\Pb∈gL i Ź/\(jQa i):=by
 let o:∀e∈G,jQ9:=λe f=>Ni (I.sz e f) (N2 u Ñ);let#[h',e,F,P,l]:=Qkg (σ:=zxd) (mo:=Qb 2) (mk:=Qb 5) (mv:=mFn Q1 zAg) (k:=Ź) (v:=Pb) I.L (by rw[Kj];show j) o rfl rfl (λh=>by unfold lT;simp[Yw])
 let s:(gAt G Ź).isSome=true:=by
  let#[x,b]:=G1 (G:=G) (k:=Ź) (by rw[I.L.kd,Kj];show j);rw[b];rfl
 let mem:=λk v=>QpW (G:=G) (k:=Ź) (k':=k) (v:=Pb) (v':=v) s;let m:fpL r aN aR aA (Qa0 G Ź (·++[Pb]))=Cn:=by unfold fpL;rw[QaN]
 refine#[_,h',e,#[F,?_,?_,?_,?_,I.aw,I.ko,I.wn,I.wk,I.xw,Ú k v d,Ú k v d,Ó e f,AS k B A y n g],(mem _ _).mpr (ü ζ),λk v d=>(mem k v).mpr zmh]
 ·rw[l wl I.wf];show I.w
 ·rw[m];show I.wf
 ·intro x b;rw[l x λz=>O6 b xvb];show I.a x b
 ·rw[m];show I.af
 ·show qzg
  ·show I.sd k v z
  show Ħ #[q,t,rfl]
 ·show qzg
  ·show I.vk k v z
  ·show hk
 ·classical
  unfold Qa0 at f;show Ż x b f;let:=I.sz x b;split
  ·simp;show this
  ·show OI this
 ·let#[E,D]:=I.cp k B A y n g;show#[E,(mem _ _).mpr (ŧ D)]
def Qoo(A:é)(I:BgI p out M C r aN aR aA wl n0 hA X K Wt G c h)(ab:Œ)(hw:ua)(hc:c<10000000){key:Ky}{q:Nat}(hk:uR)(Z:qvh){kw:W} :
  ∃P H t h',JK C zs7 h=sO jV6 /\
   BgI p out M C r aN aR aA wl n0 hA X P H t (c+1) h'/\Ź∈P/\Pb∈gL t Ź/\(jQa t)/\(∀k∈K,k∈P)/\P.length+Wt.length=K.length+H.length:=by
 let few:=I.few ab hw;let N:=Qrr (f:=W.int) (g:=true) (k:=Ź) I.L.n
 by_cases u:Ź∈K
 ·let#[t,h',e,I',S,Q]:=Qqm I hc hk Z u (kw:=kw);refine#[K,Wt,t,h',Zj (V0 (h1:=h) ?_ rfl) e,I',u,S,Q,iH,rfl];let#[v,m]:=V8 (L:=zD K) (k:=Ź) (by rw[Kj];show u);rw[m]at N;let:jR3=qo:=qh1;show ql
 ·let hn:Ź∉(zD K).map (·.1):=by rw[Kj];show u
  rw[tv_none.mpr hn]at N;let#[l,e1,L1,l1,f1]:=Qds I.L hn (by rw[Nq];show Ni few Ñ);let s:=xo4;let E:=I.L.lt r Å;let w1:l[wl]?=sO zwg:=by rw[f1 wl I.wf s];show I.w
  let J:gAt G Ź=nO:=by
   cases z:gAt G Ź with
   |none=>rfl
   |some y=>show absurd (by rw[<-I.L.kd];show xjc z) hn
  let F:∀a,a∈zy9->a∈Cn\/a=h.length:=λa d=>by
   unfold fpL at d ⊢;rw[NU]at d;simp only[NJ,NI,Nw,Dg,FF,or_false]at d ⊢
   rcases d with d|d|d|d|d|d
   ·show đ zmh
   ·show đ (ü zmh)
   ·show đ (ü qEb)
   ·show đ (ü (Tu qEb))
   ·show đ (ü (Tu (.inr (.inr d))))
   ·show ô d
  let D:wl∉zy9:=λz=>(F wl z).elim I.wf λz=>NK s z;let ah:∀x∈zy9,r<=x:=λx z=>(F x z).elim (I.af x) λz=>by rw[z];show Nt E
  let B:Wt.length<=6400:=Nh (Qi4 Wt K I.wn I.wk) few;let o:wl<l.length:=by rw[l1];show E4 s
  let I1:BgI p out M C r aN aR aA wl n0 hA X zu4 (Wt++[Ź]) jAg c zyc:=by
   let ai:LsH C zyc r aN aR aA (zD zu4) (zB zu4) jAg:=by
    let:=L1.frame (h':=l.set wl (Ë xH7)) λa d=>by rw[Qy o,if_neg λz=>D zu9]
    simpa[zD,zB]using this
   refine#[ai,P6 o,D,λx U=>by rw[Qy o,if_neg (λz=>by let:=I.aw;omega),f1 x (λz=>O6 U xvb) (N2 U E)];show I.a x U,ah,I.aw,Ó k j,?_,Ó k j,Ó k j,λk v m=>I.sd k v qzh,λk v m=>y9 (I.vk k v qzh),λe he=>?_,λk ae h2 h3 q' Y=>?_]
   ·show η j z
    ·show I.ko k z
    ·rw[ĳ z];show Qps A (I.ko key hk) Z
   ·rw[Eh];show#[I.wn,Ç,λa d b hb z=>u (by rw[<-Nz.mp hb,<-z];show I.wk a d)]
   ·show η j z
    ·show y9 (I.wk k z)
    ·show NS _ z
   ·let#[x1,x2]:=I.xw k j;refine#[y9 x1,ļ z]
    show zu5 x2
    ·show u (by rw[<-ĳ z];show x1)
   ·rcases NI.mp he with z|z
    ·show I.sz e z
    ·rw[ĳ z];show NQ _
   ·let aa:k∈K:=by
     rcases NI.mp ae with z|z
     ·show z
     ·show č jd9 h2
    let#[a1,a2]:=I.cp k aa (λz=>h2 pI) h3 q' Y;show#[y9 a1,by rw[Qbg J];show a2]
  let#[t,h',e,I',S,Q]:=Qqm I1 hc qV7 Z Å (kw:=kw);refine#[_,_,t,h',Zj (Qgc (h1:=h) ?_ (Zj (σ1:=zxd) (h1:=l) ?_ (?_:_=sO (MF.nx zs7 zyc)))) e,I',Ç,S,λk v m=>Q k v (by rw[Qbg J];show m),λk j=>y9 j,zUa]
  ·let:jR3=Bn:=qh1;show ql
  ·show G3 (Qkp rfl I.L.i rfl rfl rfl e1)
  ·let z:Wt.length<sizeLine:=uc B;unfold lT;simp[tyW,w1,z]
#print"-"
section
variable{p:È}{out:Æ}{M:â}{C:Addr}{r aN aR aA wl n0:Nat}{hA:MH}{X K Wt:Ĳ}{G:GA}{c:Nat}{h:MH}
def Qju(A:é)(a:Œ){n:Nat}:(wa zT n).length<=400:=by
 let d:=Qbe (M:=Ρ) (q:=n);let b:(EE p out).length<=2*out.length:=Ge A (n:=out.length) ĕ;omega
def bw1{k w k' w' d v:Nat}(a:k'+w=k+w')(b:k=v+d)(h:v=w+1):k'=w'+(d+1):=Ð
def bp1{k w k' w' b a:Nat}(d:k'+w=k+w')(m:b+w'=k'+a):b+w=k+a:=Ð
def QsY(A:é){Q:Ì}(hQ:∀e∈Ρ,iQ)(F:n0<r)(J:qig){key:Ky}(I:BgI p out M C r aN aR aA wl n0 hA [] K (Wt++[key]) G c h)(m:Œ)(hw:ua)(hc:c+400<10000000){kw:W}{x3 x5 x6:Û} :
  ∃g d o h' u s,JH C pY h=sO (ì (zm PD u s) h') /\
   BgI p out M C r aN aR aA wl n0 hA [] g d o (c+400) h'/\(∀k∈K,k∈g)/\qrd:=by
 let v:=xo4;let l:uR:=qY2 I;let nd:=I.wn;rw[Eh]at nd;let kW:key∉Wt:=λz=>nd.2.2 key z key Å rfl;let hh:∀a,a≠wl->(h.set wl zwg)[a]?=h[a]?:=λa S=>by rw[Qy v,A9 S]
 let I1:BgI p out M C r aN aR aA wl n0 hA [key] K Wt G c zX:=by
  refine#[I.L.frame λa S=>hh a λz=>I.wf (S5 z S),P6 v,I.wf,λx hx=>by rw[hh x (NK (Ng hx I.aw))];show I.a x hx,I.af,I.aw,I.ko,nd.1,qI5 I,λk hk=>?_,I.sd,I.vk,I.sz,λk U D h3 q i=>I.cp k U znf Å q i]
  ·rw[Nz.mp hk];show#[l,kW]
  ·show zu5 D
   ·show h3 z
 let e1:QF 3 wQ pY h=sO (ì oN zX):=by
  let w:=I.w;rw[NU]at w;unfold lT;simp[tyW,w]
 let ko:=I.ko key l;let N:key.2.length<=1000:=Nh (Nh ko.w.length_le hw) Ñ;let ea:=QgU (M:=M) A hQ (k:=key) ((I1.a n0 F).trans J) N
 let#[aa,h',el,u,s,g,d,o,rfl,f,E,H,B]:=Q9 (items:=qag) (b:=QW [5,6]) (body:=JK C) (λj Y h=>∃u s g d o,Y=qi4 u s/\BgI p out M C r aN aR aA wl n0 hA [key] g d o (c+j) h/\(∀q∈(wa zT key.1).take j,Ź∈g/\Pb∈gL o Ź)/\qrd/\∀k∈K,k∈g)
  qa2 0 oN zX #[x5,x6,K,Wt,G,rfl,I1,Ç,rfl,iH] (by
   rintro j w hj Y h ⟨u,s,g,d,o,rfl,f,E,H,B⟩
   rw[Ec,Np]at hj;let#[q,i,rfl]:=Nf.mp hj;rw[NO]at *;let P:=à i;let wf:=qV8;let#[K2,W2,G2,D,t,I2,m1,m2,m3,m4,m5]:=Qoo A f m hw (Ni (Es (Nt (Ng P wf)) c) hc) (key:=key) (q:=q) (B key l) (Ej i) (kw:=kw);refine#[zxd,rfl,_,_,ß t,_,_,K2,W2,G2,rfl,I2,Ó Z y,bp1 H m5,λk hk=>m4 k (B k hk)];rw[E3,i]at y
   show η y z
   ·let#[a1,a2]:=E Z z;show#[m4 _ a1,m3 _ _ a2]
   ·let:Z=q:=ø z
    show yY #[m1,m2])
 rw[Nq,Nq,NO,Ef]at E;rw[Nq,Nq,NO]at f;refine#[g,d,o,h',u,s,Zj e1 ?_,?_,B,H]
 ·let ei:Qm qeg oN zX=sO (qag,nO,qma):=by
   let:(Qh 2 VA (qr w6)) oN zX=sO (À qa2,qma):=by
    unfold lT;simp[ea]
   unfold Qm;show Ο
  show VZ (b:=QW [5,6]) ei el
 ·let wf:=qV8;refine#[f.L,f.w,f.wf,f.a,f.af,f.aw,f.ko,f.wn,f.wk,jra,f.sd,f.vk,λe he=>Nh (f.sz e he) (Es wf c),λk U D _ q i=>?_]
  by_cases z:k=key
  ·subst z;show E q i
  ·show f.cp k U D wM q i
def Qm2(A:é){Q:Ì}(S:∀e∈Ρ,iQ)(u:n0<r)(v:qig)(b:Œ)(hw:ua){kw:W}:∀(n d:Nat) (K Wt:Ĳ) (G:GA) (h:MH) (x3 x5 x6:Û) (f:Nat),BgI p out M C r aN aR aA wl n0 hA [] K Wt G (400*d) h->d+n=6401->K.length=Wt.length+d->n<f ->
  ∃d' l B h' q i g,jY8 (JH C)=sO (ì (zm q i g) h')/\BgI p out M C r aN aR aA wl n0 hA [] l [] B (400*d') h'/\d'<=6401/\∀k∈K,k∈l:=by
 intro n d K Wt G h x3 x5 x6 f
 induction f generalizing n d K Wt G h x3 x5 x6 with
 |zero=>show λ_ _ _ x=>ϟ x HD
 | succ f P=>
  intro I hd D x;let w:=I.w;let dl:d<=6401:=hd▸Nu d n;cases Wt with
  |nil=>
   refine#[d,K,G,h,x3,x5,x6,ZP ?_,I,dl,iH];show qV9
  | cons j W0=>
   cases n with
   |zero=>show č (I.few b hw) (D3.mpr (by rw[D];show Nh (Nv hd.symm) uj))
   |succ n=>
    obtain⟨Wt,key,F⟩:∃Wt key,j::W0=Wt++[key]:=jIc j W0
    let a:(j::W0).length=Wt.length+1:=by rw[F,NH];rfl
    rw[F]at I;let#[l,z,B,h',i,g,t,Y,L,N]:=QsY A S u v I b hw (ź (NX (DX 400 dl) 400)) (kw:=kw) (x3:=x3) (x5:=x5) (x6:=x6);let#[d',U,G2,E,q,o,m,J,I2,y,s]:=P n (d+1) l z B h' PD i g Y ((IS d n).trans hd) (bw1 N D a) (Lu x);refine#[d',U,G2,E,q,o,m,?_,I2,y,λk hk=>s k (L k hk)];rw[ZI (σ2:=qi4 i g) (h2:=h') ?_ t]
    ·show J
    ·show qV9
#print"-"
abbrev tvZ(D:œ)(k:Ky):Int:=(tv D k).getD 0
abbrev tot(K:Ĳ)(D:œ):Int:=(K.map sF).sum
def Qmj{b:Type}{f g:b->Int}{a:b}:∀(K:ä b),K.Nodup->a∈K->(∀k,k≠a->g k=f k)->(K.map g).sum=xo5+(g a-f a):=by
 intro K
 induction K with
 |nil=>
  intro _ h _;simp at h
 |cons x K d=>
  intro j h e;let#[c,l]:=Ei.mp j;rw[Nw,Nw,FO,FO]
  show Ŧ h
  ·let:K.map g=K.map f:=EJ λk hk=>e k λz=>c (by rw[<-z];show hk);rw[this];omega
  ·let:=d l h e;let i:=e x λz=>c (j7 z h);rw[this,i];omega
def QoT{a:Type}{f:a->Int}{c:Int}:∀(K:ä a),(∀k∈K,f k<=c)->xo5<=K.length*c:=by
 intro K
 induction K with
 |nil=>
  intro _;simp
 |cons x K b=>
  intro h;let e:=h x Å;let d:=b λk hk=>h k (NB _ hk);rw[Nw,FO,NP];let:((K.length+1:Nat):Int)*c=K.length*c+c:=by rw[Int.natCast_add,Int.add_mul];simp
  rw[this];omega
section
variable{p:È}{out:Æ}{M:â}{K:Ĳ}{G:GA}{X Wt:Ĳ}{D:œ}{B:jM}{c:Nat}
structure GOk(p:È)(out:Æ)(M:â)(K:Ĳ)(G:GA):Prop where
 kn:K.Nodup
 ko:∀k∈K,cF
 kg:G.map (·.1)=K
 sd:jAf
 vk:jG2
 cp:∀k∈K,∀q∈RZ,jWj
abbrev Sat(D:œ)(k:Ky)(v:BV):Prop:=∀x y,jB D=sO x->xo6->x+v.2<=y
structure CC(p:È)(out:Æ)(M:â)(K:Ĳ)(G:GA)(X:Ĳ)(D:œ)(B:jM)(Wt:Ĳ)(c:Nat):Prop where
 kd:D.map (·.1)=K
 wk:∀k∈Wt,k∈K
 dr:∀k v,jB D=sO v->zR3
 ok:∀k∈K,k∉Wt->k∉X->∀v∈zl9,Sat D k v
 ri:∃T:Ky->Nat,(∀k,T k<=c)/\∀a k,xBh->k∈K/\∃m x y,(a,m)∈zl9/\tv D a=sO x/\jB D=sO y/\x<=y+m/\(x=y+m->T k<T a)
 sm:zgc<=tot K D
 ln:Wt.length<=K.length+c
def QgW{v:BV}{k:Ky}(g:CG)(h:bQ):0<=v.2:=by
 let#[q,_,e]:=g.sd k v h;let:v.2=moI zB4 v.1.2:=by rw[<-congrArg Prod.snd e];rfl
 rw[this];unfold moI;split<;>decide
def CC.top(A:é)(b:AB)(g:CG)(C:CC p out M K G X D B Wt c)(d:Œ)(h:ue):c<=1280000:=by
 let j:=QoT (f:=tvZ D) (c:=200) K λk hk=>by
  show jB7 (xC1 C);let:=(QnD A b (C.dr k v a)).2;apply v<=200;omega
 let e:=C.sm;unfold tot at e;let i:(K.length:Int)*200<=6400*200:=Int.mul_le_mul_of_nonneg_right ĥ Ñ;omega
def CC.rise(g:CG)(C:CC p out M K G X D B Wt c){key:Ky}{v:BV}{x y:Int}(hk:uR)(t:v∈sU)(r:tv D key=sO x)(n:xo6)(S:y<x+v.2)(hB:B.map (·.1)=K):CC p out M K G X RR qzi (Wt++[v.1]) (c+1):=by
 let H:=g.vk key v t;let Z:=QgW g t;let F:v.1∈D.map (·.1):=by rw[C.kd];show H
 refine#[by rw[WG F];show C.kd,λk hk=>?_,λk w hw=>?_,λk l h A u hu a b i j=>?_,?_,?_,by let:=C.ln;simp;omega]
 ·rcases NI.mp hk with z|z
  ·show C.wk k z
  ·show Bp z H
 ·rw[XC]at hw;split at hw
  ·rename_i e;subst e;cases hw;let#[q,Q,e]:=g.sd key v t;let l:Der p out M (ask p out M v.1 q).1 x:=by rw[e];show C.dr key x r
   let h:=Der.up l Q;rw[e]at h;show h
  ·show C.dr k w hw
 ·let E:k≠v.1:=ϴ h (vA z);rw[XC,Õ E]at i;let s:=C.ok k l (λz=>h pI) A u hu;show jyd j a i n
  ·show s a b i j
 ·let#[T,J,N]:=C.ri;refine#[λk=>if k=v.1 then c+1 else T k,ļ k,Ú a k o]
  ·apply(if k=v.1 then c+1 else T k)<=c+1;let:=J k;split<;>omega
  ·rw[XC]at o
   by_cases e:a=v.1
   ·rw[Ò e]at o;cases o;subst e;refine#[hk,v.2,x+v.2,if jd1 then x+v.2 else x,t,jQb,?_,?_,?_]
    ·rw[XC];split
     ·rfl
     ·show r
    ·split<;>omega
    ·intro z
     by_cases d:jd1
     ·rw[Ò d]at z;rw[d]at r;show ð r n;omega
     ·simp only[d,if_false,if_true];let:=J key;omega
   ·rw[Õ e]at o;let#[l,m,I,L,h,A,i,j,U]:=N a k o
    by_cases d:k=v.1
    ·subst d;rw[n]at i;show ï i #[l,m,I,x+v.2,h,zse e A,jQb,Ė,λz=>Ė]
    ·refine#[l,m,I,L,h,zse e A,zse d i,j,ļ z];simp only[e,d,if_false];show U z
 ·let P:=Qmj (f:=tvZ D) (g:=tvZ RR) (a:=v.1) K g.kn H λk hk=>by
   unfold tvZ;rw[XC,zfc]
  let Y:tvZ RR v.1=x+v.2:=by unfold tvZ;rw[XC,Ĥ];rfl
  let d:tvZ D v.1=y:=by unfold tvZ;rw[n];rfl
  let:=C.sm;unfold tot at *;rw[P,Y,d];push_cast;omega
#print"-"
def QiF{items:Ã}{src:ji}{b:MG}{body:SM}(P:xC)(d:jFh):∀(r:Ã) (n:Nat) (σ:MSt) (h:MH),Ba n ->
  (∀(j:Nat) (w:W),jtf) ->
  jze:=by
 intro r
 induction r with
 |nil=>
  show jY3
 | cons w r i=>
  show jJa p o
  let#[a,h',m,f]:=i (n+1) σ2 h2 g λj x l σ h c=>by
   let:=e (j+1) x zn7 σ h (by rw[show qWb by omega];show c);rw[show n+(j+1)+1=n+1+j+1 by omega]at this;show this
  refine#[a,h',?_,by rw[NP,show jYa by omega];show f];rw[Zt,zG4,p,Nj,o];show m
section
variable{C:Addr}{h:MH}{r aN aR aA:Nat}{D:œ}{B:jM}{G:GA}
def QnV(H:ŷ){k:Ky}{v:Int}(hk:k∈D.map (·.1))(e:t9):∃h',J3 xBi ϭ (Ĕ v) h=sO h'/\Ϻ h' (tu D k v) B/\xy/\∀a,zl7->BD:=by
 let hN:=qE9;let#[l,m,j]:=H.d3;let c:∀x a,zl7->(h.set aN x)[a]?=h[a]?:=λx a d=>by rw[Qy hN,A9 d]
 refine#[_,Qbb (f:=W.int) (v:=v) H.n e,#[xf7 l,by rw[Qy hN,Ĥ],by rw[c _ aR (N8 j)];show H.b,H.g.frame λa d=>c _ a (H.dg a d).2.1,H.d3,H.dg,by rw[WG hk];show H.kd,by rw[WG hk];show H.kb],Eo,c _]
def Qn1(H:ŷ){k:Ky}{v:jfc}(hk:k∈D.map (·.1))(l:t9):∃h',J3 xBj ϭ (kO v) h=sO h'/\Ϻ h' D (tu B k v)/\xy/\∀a,zl8->BD:=by
 let j:=qEa;let#[p,o,m]:=H.d3;let c:∀x a,zl8->(h.set aR x)[a]?=h[a]?:=λx a e=>by rw[Qy j,A9 e]
 let d:k∈B.map (·.1):=by rw[H.kb];show hk
 refine#[_,Qbb (f:=kO) (v:=v) H.b (by rw[H.len.2];show l),#[xf7 o,by rw[c _ aN m];show H.n,P6 j,H.g.frame λa e=>c _ a (H.dg a e).2.2,H.d3,H.dg,H.kd,by rw[WG d];show H.kb],Eo,c _]
#print"-"
abbrev rA(r:Nat)(key:Ky)(a:Nat)(x3 x4:Û):MSt:=[Ty,sO jfd,sO ħ,x3,x4]
section
variable{p:È}{out:Æ}{M:â}{C:Addr}{r aN aR aA rl:Nat}{K:Ĳ}{G:GA}{X W0 Rs:Ĳ}{D:œ}{B:jM}{c:Nat}{h:MH}
def QnG(A:é)(ng:AB)(g:CG)(H:ŷ)(J:CC p out M K G X D B jfe c)(ab:Œ)(hK:ue){key:Ky}(hk:uR){v:BV}(hv:v∈sU)(hr:h[rl]?=wo)(rf:rl∉Cn) :
  ∃S B' b c' h',Zh C yr h=sO (ì yr h')/\Ϻ h' S B'/\CC p out M K G X S B' (W0++b) c'/\h'[rl]?=sO jNg/\xy/\(∀a,MJ->a≠rl->BD)/\b.length+c=Rs.length+c' /\
   (∀a∈aA::G.map (·.2.1),BD)/\(zZe\/Sat S key v)/\(xvc->zZe)/\(∀u∈sU,Sat D key u->zZe\/Sat S key u):=by
 let t:=g.vk key v hv;let w:∀k∈K,k∈D.map (·.1):=λk hk=>by rw[J.kd];show hk
 show(uY x P V8 (w key hk),uY y N V8 zf3)
 let F:t9:=by
  let:D.length=K.length:=by let:=xc0 J;show Av
  rw[this];show Ni hK Ñ
 let ia:=xC3 N;let ik:=xC3 P;let ea:Qe Vu jNi æ yr h=sO (Â y,h):=K3 zp0 rfl ia;let ek:Qe Z3 jV2 Ą yr h=sO (Â zQ6,h):=K3 (K3 zp0 rfl ik) rfl rfl
 let Q:Qg (Qe wLt jC5 jId) yr h=sO (decide xC4,h):=by
  let:Qe wLt jC5 jId yr h=sO (ñ (AK xC4),h):=K3 ea ek rfl;show ql
 by_cases q:y<x+v.2
 ·rw[ϗ q]at Q;let#[h1,e1,H1,l1,f1]:=QnV H (v:=x+v.2) zf3 F;let Y:v.1∈(tu D v.1 zQ6).map (·.1):=by rw[WG zf3];show w v.1 t
  let#[I,e2,H2,l2,f2]:=Qn1 H1 (v:=sO key) Y (by rw[Qn2 zf3];show F);let rN:rl≠aN:=qwe;let rR:rl≠aR:=qwe;let E:I[rl]?=wo:=by rw[f2 rl rR,f1 rl rN];show hr
  let j:=à E;let o:=J.rise g hk hv P N q (by rw[H.kb];show J.kd);rw[Ey]at o;let top:=o.top A ng g ab hK
  let aa:Rs.length<sizeLine:=by
   let:=o.ln;show(Ϯ,Ni (Ė:Rs.length<=1300000) Ñ)
  let H3:Ϻ qe0 RR qzi:=H2.frame λa t=>by rw[Qy j,if_neg λz=>rf (j7 z t)]
  let ep:QS jC2 yr I=sO (ì yr qe0):=by
   unfold rA;simp[tyW,E,aa]
  refine#[_,_,Rs++[v.1],c+1,I.set rl (Ë qmc),Qgc Q ?_,H3,o,P6 j,by rw[Eo,l2,l1],Ú a l Z,zUa,Ó a l,?_,ļ z,λu hu s=>?_]
  ·refine Zj (Qff ek zp0 rfl e1) ?_;refine Zj (Qff (v:=lJ) (h1:=h1) rfl (mJ H1) rfl e2) ep
  ·rw[Qy j,A9 Z,f2 a jo8,f1 a jo8]
  ·let hd:=H.dg a l;rw[Qy j,if_neg (λz=>rf (by rw[z];show Tp l;rcases l with l|l<;>simp[l])),f2 a hd.2.2,f1 a hd.2.1]
  ·show jye
   ·refine zq7;rw[XC,Õ z,P]at m;rw[XC,Ĥ]at d;show(Bi m d,Yao _)
  ·rw[<-Ey];show y9 z
  ·show jye
   ·refine zq7;rw[XC,Õ z]at m;show jyd d L m N
    ·show s L U m d
 ·rw[ϔ q]at Q;refine#[D,B,Rs,c,h,V0 Q rfl,H,J,hr,rfl,jR,rfl,Ŗ,zq7,λz=>z,λu _ s=>ô s];rw[P]at m;rw[N]at d;show Bi m d;omega
#print"-"
def J5{m:ME}{σ:MSt}{h h1:MH}{x:W}(e:zsj):xrh=sO ([x],h1):=by
 unfold Qa;rw[e];rfl
def mt9{T:String}{f:pH}{mo:ME}{ms:MA}{σ:MSt}{h h1 h2:MH}{o:W}{as:Ã}{res:Þ}(b:mo σ h=Ď o h1)(a:tyW h1 T o=true)(d:jgj=sO (as,h2))(c:f o as h2=res):mMt T f mo ms σ h=res:=by
 unfold mMt;rw[b,Nj,Ò a,d];show c
section
variable{p:È}{out:Æ}{M:â}{C:Addr}{r aN aR aA wl:Nat}{K:Ĳ}{G:GA}{W0:Ĳ}{D:œ}{B:jM}{c:Nat}{h:MH}{cs:Nat}
def QhQ(A:é)(ng:AB)(g:CG)(H:ŷ){key:Ky}(hk:uR)(cc:CC p out M K G [key] D B W0 c)(aa:Œ)(hK:ue) :
  ∃f x Rs m h',QL C [Ä r,lJ] h=sO (ģ,h')/\Ϻ h' f x/\CC p out M K G [] f x jfe m/\h'[h.length]?=wo/\(∀a,js2)/\xo7:=by
 let#[q,Y]:=G1 (G:=G) (k:=key) (by rw[g.kg];show hk);let Z:sU=q.2:=by unfold gL;rw[Y]
 let hm:=Xq Y;let hp:q.1∈aA::G.map (·.2.1):=C4 (Sy #[_,hm,rfl]);let H0:Ϻ jh D B:=H.frame λa ha=>NC (H.lt a ha);let rf:jNj:=c7 z xvd;let y:(h++dH)[q.1]?=zu3:=H0.g.o _ hm
 let#[af,h',el,N,L,f,x,Rs,m,rfl,ah,H',d,X,ll,fr,ln,st]:=QiF (items:=q.2.map Yw) (src:=xC5) (b:=QW [3,4]) (body:=Zh C) (λj I e=>∃N L f x Rs m,I=rA r key h.length N L/\e[q.1]?=zu3/\Ϻ e f x/\CC p out M K G [key] f x jfe m/\e[h.length]?=wo/\e.length=jb1/\(∀a,MJ->vK->e[a]?=h[a]?)/\xo7/\∀u∈q.2.take j,xvc\/Sat f key u)
  (λn I e hP s hs=>by
   let#[_,_,_,_,_,_,_,Q,_]:=hP;cases hs;show Q) qti 0 qB9 jh #[nO,nO,D,B,[],c,rfl,y,H0,by rw[EN];show cc,Ç,Ç,λa _ ha=>NC ha,Ç,Ç] (by
   rintro j w hj I e ⟨N,L,f,x,Rs,m,rfl,Q,H',d,X,ll,fr,ln,st⟩
   rw[Np]at hj;let#[v,hv,rfl]:=Nf.mp hj;rw[NO]at *;let S:v∈sU:=by rw[Z];show Ej hv
   let#[D2,B2,R2,c2,h2,t,H2,ab,U,l2,f2,n2,p2,s1,s2,s3]:=QnG A ng g H' d aa hK hk S X rf;refine#[rA r key h.length jXh (zS v),rfl,_,_,t,_,_,D2,B2,R2,c2,rfl,by rw[p2 q.1 hp];show Q,H2,ab,U,by rw[l2];show ll,λa F E=>by rw[f2 a F (NK E)];show fr a F E,Ė,λu hu=>?_];rw[E3,hv]at hu
   rcases NI.mp hu with z|z
   ·rcases st u z with J|J
    ·show ß (s2 J)
    ·show s3 u (by rw[Z];show Fv z) J
   ·let:u=v:=ø z
    show yY s1)
 rw[Nq,NO,Ef]at st;refine#[f,x,Rs,m,h',?_,H',#[d.kd,d.wk,d.dr,λk e h2 _ u hu=>?_,d.ri,d.sm,d.ln],X,fr,ln]
 ·unfold QL QD;refine Qcm (h1:=h') (v:=ģ) (Zj (σ1:=rA r key h.length nO nO) (h1:=vH) rfl ?_);refine Zj (VZ (src:=xC5) (items:=q.2.map Yw) (h1:=vH) ?_ el) rfl;let e1:Qe Vu (qL1 Ù) Ö qB9 jh=sO (zi4,vH):=K3 (mJ H0) rfl (H0.ixA Y);unfold Qm;rw[e1];simp[VW,y]
 ·by_cases z:k=key
  ·subst z;rw[Z]at hu;show(st u hu).elim (λq=>ϟ q h2) id
  ·show d.ok k e h2 wM u hu
def Qqk(A:é)(J:AB)(g:CG)(H:ŷ){key:Ky}(f:CC p out M K G [] D B (W0++[key]) c)(m:Œ)(L:ue)(hw:h[wl]?=sO (Ë ((W0++[key]).map Qu)))(wf:zoj){n0:Nat}{kw:W}{x3 x5 x6:Û} :
  ∃s t Wt q h',JE C pY h=sO jZa/\Ϻ h' s t/\CC p out M K G [] s t Wt q/\h'[wl]?=sO zwg/\jxi/\qUg/\Wt.length+c=W0.length+q:=by
 let d:=(Nd.mp hw).1;let hk:uR:=qY2 f
 let I:CC p out M K G [key] D B W0 c:=#[f.kd,qI5 f,f.dr,λk o E n u hu=>f.ok k o (λz=>by
  show zu5 E
  ·show n z) Å u hu,f.ri,f.sm,by let:=f.ln;show Ϯ;omega]
 let H1:Ϻ (h.set wl jNh) D B:=qf2 H d
 let#[s,t,Rs,q,h',e,S,j,x,F,U]:=QhQ A J g H1 hk I m L;rw[Eo]at e x F;let l:h'[wl]?=sO jNh:=by rw[F wl wf d,Qy d,Ĥ]
 let b:=à l;let N:=à x;let top:=j.top A J g m L;let w:=j.ln;simp at w;let z:W0.length+Rs.length<=sizeLine:=Nh (Ė:_<=1300000) Ñ;refine#[s,t,W0++Rs,q,h'.set wl (Ë ((W0++Rs).map Qu)),?_,qf2 S b,j,P6 b,λa o E n=>by rw[Qy b,A9 n,F a o E,Qy d,A9 n],by rw[Eo];omega,zUa]
 let Q:mMt "list" GS Ą Qc pY h=sO (lJ,qmb):=by
  rw[NU]at hw;unfold lT;simp[tyW,hw]
 let P:Gh C "raise_askers" 2 (QL C) å (É wQ) pY h=sO (ģ,h'):=Qkp rfl H.i rfl (as:=[lJ]) (h1:=qmb) (J5 Q) rfl e;let ty:tyW h "list" gV=true:=by simp[tyW,hw]
 refine G3 (v:=.non) (mt9 rfl ty (J5 P) ?_);unfold Vr
 let lo:loW h' MU=sO qp5:=by
  unfold loW;simp[x]
 simp only[l,lo,Nj];rw[if_pos (xC6 z),NU]
#print"-"
section
variable{p:È}{out:Æ}{M:â}{C:Addr}{r aN aR aA wl:Nat}{K:Ĳ}{G:GA}
def cw1{w t a P K c b:Nat}(d:t+c=w+b)(e:a+P=K+c)(h:a=w+1):t+(P+1)=K+b:=Ð
def cw2{w P K c:Nat}(d:K<=6400)(a:P+0=1300000)(b:w+1+P=K+c)(top:c<=1280000):False:=Ð
def QjQ(A:é)(I:AB)(g:CG)(j:Œ)(x:ue)(wf:zoj){n0:Nat}{kw:W}{x3 x5 x6:Û}:∀(n P:Nat) (Wt:Ĳ) (D:œ) (B:jM) (c:Nat) (h:MH) (f:Nat),ŷ->CC p out M K G [] D B Wt c->qle->P+n=1300000->Wt.length+P=K.length+c->n<f ->
  ∃s u F h',jY8 (JE C)=sO jZa/\Ϻ h' s u/\CC p out M K G [] s u [] F/\jxi/\qUg:=by
 intro n P Wt D B c h f
 induction f generalizing n P Wt D B c h with
 |zero=>show λ_ _ _ _ _ w=>ϟ w HD
 | succ f Z=>
  intro H o hw J L w;let b:=hw;cases Wt with
  |nil=>
   refine#[D,B,c,h,ZP ?_,H,o,eC,NA _];simp at hw;unfold lT;simp[Qaw,hw]
  | cons m q=>
   let top:=o.top A I g j x;cases n with
   |zero=>show(cw2 x J L top).elim
   | succ n=>
    obtain⟨W0,key,S⟩:∃W0 key,m::q=W0++[key]:=jIc m q
    let d:(m::q).length=W0.length+1:=by rw[S,NH];rfl
    rw[S]at o hw;let#[s,u,Wt,F,h',t,H',E,v,fr,i,Y]:=Qqk A I g H o j x hw wf (n0:=n0) (kw:=kw) (x3:=x3) (x5:=x5) (x6:=x6);let#[D2,B2,c2,l,X,H2,z,y,e]:=Z n (P+1) Wt s u F h' H' E v ((IS P n).trans J) (cw1 Y L d) (Lu w);refine#[D2,B2,c2,l,?_,H2,z,ś a Q l N,Nh i e]
    ·rw[ZI (σ2:=lT n0 kw r x3 jR1 x5 x6) (h2:=h') ?_ t]
     ·show X
     ·simp at b;unfold lT;simp[Qaw,b]
    ·rw[y a Q (Ng l i) N,fr a Q l N]
#print"-"
def Qlp{C:Addr}{f:Str}{mo mv:ME}{σ:MSt}{h h1:MH}{v:W}{n:Nat}{fs:ž W}(e:zo0)(d:qu5)(c:h1[n]?=zSi)(a:rZ):Qal C f mo mv σ h=sO (ì σ (h1.set n zF4)):=by
 let b:QbS C h1 Ε=sO fs:=by
  unfold QbS;show jA c;simp
 unfold Qal;rw[e,Nj,d,Nj];unfold QaW;simp only[b,Nj];rw[Ò a]
def QmR{C:Addr}{h0:MH}{σ:MSt}:Qir C 1 (Q8 C) Qc σ h0=sO (H9 h0,h0++gG):=by
 let e:Q8 C [H9 h0] (h0++dA)=sO (.non,h0++gG):=by
  refine QoQ (σ1:=oV) ?_;let a:∀(σ:MSt) (h:MH),ĺ X4=sO (ģ,zPc):=Ŗ;let d:=Qlp (C:=C) (f:="numbers") (mo:=Qb 0) (mv:=X4) (σ:=oV) (h:=h0++dA) (n:=h0.length) (fs:=[]) jg8 rfl Å Ñ
  let m:((h0++xo8++[vT]).set h0.length (.ins C (QcY "numbers" (jig xo8) [])))=jQc:=by
   show jl7
  rw[m]at d;let c:=Qlp (C:=C) (f:="risen_by") (mo:=Qb 0) (mv:=X4) (σ:=oV) (h:=jQc) (n:=h0.length) (fs:=[oA]) jg8 rfl Å Å
  let l:((h0++[qbi,vT]++[vT]).set h0.length (.ins C (QcY "risen_by" (jig [qbi,vT]) [oA])))=jK2:=by
   show jl7
  rw[l]at c;let b:=Qlp (C:=C) (f:="askers") (mo:=Qb 0) (mv:=X4) (σ:=oV) (h:=jK2) (n:=h0.length) (fs:=[oA,jG3]) jg8 rfl Å Å
  let j:((h0++js3++[vT]).set h0.length (.ins C (QcY "askers" (jig js3) [oA,jG3])))=h0++gG:=by
   show jl7
  rw[j]at b;show Zj d (Zj c b)
 apply(if jIe then(Q8 C [H9 h0] (h0++dA)).bind _ else nO)=_;rw[if_pos (show jIe from rfl),e];rfl
def Qnl{C:Addr}{h0:MH}:LsH C zv7 h0.length P9 yC vt [] [] []:=by
 refine#[Ç,?_,?_,#[?_,Ç,Ç,Ç],#[Ė,Ė,Ė],?_,rfl,rfl]
 show qGb
 show qGb
 ·show xo9;simp
 ·intro a b;show j6 b;omega
def QbL{G:GA}(h:∀e∈G,e.2.2=[])(k:Ky):zl9=[]:=by
 unfold gL;cases c:Td with
 |none=>rfl
 |some q=>show h _ (Xq c)
section
variable{p:È}{out:Æ}{M:â}{C:Addr}{h0:MH}{n0:Nat}
def Qpu{keys:Ĳ}(q:keys.Nodup)(A:keys.length<=6400){kw:W} :
  ∃x3 G h,Jd uk lA (JD C) qc1 zv7=sO (ì (lT n0 (Ë u6) h0.length x3 nO nO nO) h) /\
   jQd (zD keys) (zB keys)/\qM4/\jSe:=by
 let#[o,u,v,x3,G,rfl,L,ge,l,lo]:=Q9 (items:=keys.map Qu) (b:=QM 3) (body:=JD C) (λj m h=>∃x3 G,m=qh7 x3/\jQd (zD zSj) (zB zSj)/\qM4/\jSe)
  u6 0 qc1 zv7 #[nO,[],rfl,Qnl,Ç,λa c=>NC c,λa c=>by simp at c;omega] (by
   rintro j w n m h ⟨x3,G,rfl,L,ge,l,lo⟩
   rw[Np]at n;let#[k,hk,rfl]:=ό n;rw[NO]at *;let r:=xu4
   let f:k∉(zD zSj).map (·.1):=by
    rw[Kj];intro z;show Sf i d z;rw[List.getElem?_take]at d;split at d
    ·rename_i g;show č (QiH q d hk) (NK g)
    ·cases d
   let#[B,x,L1,y,f1]:=Qds L f (by rw[Nq,EK];omega);let t:h0.length<=h.length:=Nt (L.lt h0.length Å);refine#[qh7 (sO ϭ),rfl,_,_,ß (G3 (Qkp rfl L.i rfl rfl rfl x)),_,G++zGi,rfl,?_,Ó e s,Ó a c,Ó a c]
   ·rw[E3,hk];simpa[zD,zB]using L1
   ·show η s z
    ·show ge e z
    ·rw[ĳ z]
   ·rw[f1 a (λz=>absurd (lo a z) ĥ) (Ng c t)];show l a c
   ·simp only[fpL,NU,Nw,Dg,NJ,NI,FF,or_false]at c
    rcases c with c|c|c|c|c|c
    ·omega
    ·omega
    ·omega
    ·omega
    ·show lo a (by simp only[fpL,NJ];show ÿ (ü (Tu (.inr c))))
    ·omega)
 show(pe L,#[x3,G,u,VZ (b:=QM 3) rfl v,L,ge,l,lo])
def QgA(A:é)(ng:AB){Q:Ì}(hQ:∀e∈Ρ,iQ)(j:Œ)(hw:ua)(m:h0[n0]?=sO wS){keys:Ĳ}(w:keys.Nodup)(Z:∀k∈keys,cF) :
  ∃aN aR aA K G D B c h',Zx C [Ä n0,À u6] h0=sO (H9 h0,h')/\LsH C h' h0.length aN aR aA D B G/\CG/\zG5/\(∀k∈keys,k∈K)/\(qka h')/\ue:=by
 let y:=Qa2 j hw w Z;let t:=à m;let#[U,G,d,e1,L1,ge,H,lo1]:=Qpu (C:=C) (h0:=h0) (n0:=n0) w y (kw:=À u6);let E:h0.length<d.length:=L1.lt h0.length Å
 let I0:BgI p out M C h0.length P9 yC vt d.length n0 h0 [] keys keys G (400*0) jLf:=by
  refine#[xC8 L1 l,Ç,c7 z (L1.lt _ z),λx hx=>?_,lo1,Nt E,Z,w,iH,Ç,Ú k v b,Ú k v b,Ó e o,jK3]
  ·rw[NC ĥ,H x hx]
  show xC7
  show xC7
  ·rw[ge e o];show NQ _
 let#[d',K,r,f,S,P,N,e2,I2,ae,sb]:=Qm2 A hQ t m j hw (kw:=À u6) 6401 0 keys keys G jLf U nO nO 20000000 I0 rfl rfl Ñ;let few:=I2.few j hw;let u:K.Nodup:=by let:=I2.L.nod;rwa[Kj]at this
 let g:GOk p out M K r:=#[u,I2.ko,by rw[I2.L.kd,Kj],I2.sd,I2.vk,λk hk q hq=>I2.cp k hk Å Å q hq]
 let ek:mFn Yz (É zwh) (lT n0 (Ë u6) h0.length S (sO (zr d)) P N) f=sO (H9 f,f++zte):=by
  let:Kb f (ý P9)=sO (tb W.int uT):=by simp only[Kb,I2.L.n]
  unfold mFn;rw[J5 (un9 rfl (XE I2.L.i rfl)),Nj];unfold Yz;simp only[this,N0];simp[tb,zD,Da]
 let J:CC p out M K r [] uT lB K 0:=by
  let X:∀k v,jB uT=sO v->v=0:=λk v b=>by
   show jB8
  let b0:∀k v,jB lB=sO v->v=nO:=λk v b=>by
   show jB8
  refine#[Kj,iH,λk v b=>by rw[X k v b];show .zero k,jK3,#[λ_=>0,λ_=>NA _,λa k hb=>?_],?_,Nu _ _]
  ·let:=b0 a _ hb;cases this
  ·let:∀(L:Ĳ),(∀k,tvZ uT k=0)->(L.map (tvZ uT)).sum=0:=λL hz=>by
    induction L with
    |nil=>rfl
    |cons x L ih=>rw[Nw,FO,ih,hz];rfl
   unfold tot
   rw[this K λk=>by
    unfold tvZ;cases c:jB uT with
    |none=>rfl
    |some v=>show X k v c]
   decide
 let H3:LsH C (f++zte) h0.length P9 yC vt uT lB r:=I2.L.frame λa l=>NC (I2.L.lt a l);let s:f.length∉fpL h0.length P9 yC vt r:=c7 z (I2.L.lt _ z);let#[D,B,c,h3,e3,H4,I,F,ab]:=QjQ A ng g j few s (n0:=n0) (kw:=À u6) (x3:=S) (x5:=P) (x6:=N) 1300000 0 K uT lB 0 (f++zte) 20000000 H3 J Å rfl rfl Ñ;refine#[_,_,_,K,r,D,B,c,h3,?_,H4,g,I,sb,Ó a l,few]
 ·unfold Zx QD;refine Qcm (Zj (QK QmR) ?_);refine Zj e1 ?_;refine Zj (QK (v:=H9 d) (h1:=d++[À u6]) rfl) ?_;refine Zj e2 ?_;refine Zj (QK ek) ?_;refine Zj e3 ?_;rfl
 ·let aa:=I2.L.lt h0.length Å;rw[F a (λz=>O6 l (I2.af a z)) xV ĥ,NC ĥ];show I2.a a l
#print"-"
def Xg{m:ME}{ms:MA}{σ:MSt}{h h1 h2:MH}{x:W}{xs:Ã}(e:zsj)(a:jgj=sO (xs,h2)):xrg=sO (x::xs,h2):=by
 unfold Qa;rw[e,Nj,a];rfl
def VI{n:Nat}{f:FM}{ms:MA}{σ:MSt}{h h1:MH}{as:Ã}{r:Þ}(e:zJa)(en:xy2)(a:jl5=r):Qh n f ms σ h=r:=by
 unfold Qh mFn;rw[e,Nj];apply(if xy2 then jl5 else nO)=r;rw[if_pos en,a]
def QqN{m:ME}{σ:MSt}{h h1:MH}{v:W}(e:zme):QU m σ h=AG h1:=by
 unfold QU;rw[e];rfl
abbrev rU(p:È)(r:Nat)(key:Ky)(bl:Nat)(x4:Û):MSt:=[ď,Ty,sO jfd,sO (.ref bl),x4]
section
variable{p:È}{out:Æ}{M:â}{C:Addr}{r aN aR aA:Nat}{K:Ĳ}{G:GA}{D:œ}{B:jM}{c:Nat}
def QcV(g:CG)(cc:zG5){T:Ky->Nat}(A:qmd)(hB:B.map (·.1)=K){bl:Nat}(X:bl∉Cn):∀(n:Nat) (key:Ky) (Bk:Ì) (h:MH) (f:Nat),T key<=n->uR->n<f->Bk.length+n<=1300000->ŷ->h[bl]?=js4->(∀q∈Bk,Az) ->
  ∃(d:Ky) (j:Ì) (h':MH),Qo (Qg (xj jV3)) (Y0 C) f nB h=sO (ì (rU p r d bl nO) h')/\d∈K/\j.length<=1300000/\(∀q∈j,Az)/\h'[bl]?=sO (Ë (j.map Q2))/\xy/\∀a,a≠bl->BD:=by
 intro n
 induction n with
 | zero=>
  intro key Bk h f Q hk P N H s u;show jD1;cases v with
  |some k=>let:=(A key k l).2;omega
  |none=>
   show jt1
 | succ n I=>
  intro key Bk h f Q hk P N H s u;show jD1;let o:=à s;cases v with
  |none=>
   show jt1
  | some k=>
   let#[x,J]:=A key k l;let E:∀a,a≠bl->(h.set bl (Ë zB1))[a]?=h[a]?:=λa m=>by rw[Qy o,A9 m]
   let y:Ϻ zza D B:=H.frame λa m=>E a λz=>X (S5 z m)
   let#[d,j,h',t,a1,a2,a3,a4,Z,Y]:=I k (Bk++qBa) zza f ĥ x ĥ xV y (by rw[Qy o,Ĥ]) (λq w=>by
    show P4 w z u q
    ·rw[ĳ z];show(g.ko key hk).n)
   refine#[d,j,h',?_,a1,a2,a3,a4,by rw[Z,Eo],λa m=>by rw[Y a m,E a m]];rw[ZI (σ2:=rU p r k bl nO) (h2:=h.set bl (Ë zB1)) ?_ ?_]
   ·show t
   ·show jQj (ξ,h)
   ·let z:Bk.length<sizeLine:=Ni (Ė:Bk.length<=1300000) Ñ
    let U:QS jx0 nB h=sO (ì nB zza):=by
     unfold rU Qu;simp[tyW,s,z,Q2]
    let S:=qM5 y;show Zj U (QK (K3 (mJ y) rfl S))
def Qd9(A:é)(h0:CF)(I:∀s∈out,Bg)(ng:AB)(g:CG){h:MH}(H:ŷ)(o:zG5)(e:Œ)(hK:ue){key:Ky}(hk:uR) :
  ∃(L:Ì) (h':MH),Jg C [Qw p,Ä r,lJ] h=sO (À pV,h')/\∀a,vK->BD:=by
 let#[T,t1,t2]:=o.ri;let top:=o.top A ng g e hK;let hB:B.map (·.1)=K:=by rw[H.kb];show o.kd
 let tB:qmd:=λa k hb=>by
  let#[b,m,x,y,U,h3,h4,h5,h6]:=t2 a k hb;let s:=o.ok k b Å Å (a,m) U y x h4 h3;show#[b,h6 (Int.le_antisymm h5 s)]
 let bf:jNj:=c7 z xvd;let H1:Ϻ jh D B:=xC8 H u;let ab:=t1 key;let#[d,Bk,b,t,a1,a2,a3,Y,a5,a6]:=QcV (C:=C) g o tB hB bf (T key) key [] jh 20000000 ĕ hk ĥ xV H1 Å Å;let w:=g.ko d a1;let pos:zb5:=Ni Ō w.n;let#[F0,Q,j,e0]:=WI A e pos;let i:∀q∈ks F0,Az:=λq F=>Qe7 A pos ((j q).mp F);let f:xih:=Nh (Qfd Q i) e
 let hz:d.1∈ks F0:=by
  let hm:=Vs w.n;let:=xv6 I;rw[Qcn A w.n]at this;show(j _).mpr this
 let#[La,v,#[la,_],ea]:=Qah Q (ja f) hz;let e1:=e0 b;let e2:=ea js5 b.length Å;let es:=UM A b;let ae:La.reverse.length<=200:=by rw[Er];show Nh la f
 let e3:=λh=>XQ A (La.reverse++Bk.reverse) (λq F=>by
  show η F z
  ·show i q (v.mem q xBf)
  ·show a3 q xBf) (by rw[NH,Er (as:=Bk)];omega) h
 refine#[La.reverse++Bk.reverse,zyf,?_,Ó a u]
 ·unfold Jg QD;refine Qcm (Zj (σ1:=rU p r key h.length nO) (h1:=vH) rfl (Zj t ?_))
  let s4:Qh 2 Vt jwc (rU p r d h.length nO) b=sO (À b9,zp1):=by
   unfold rU Qu;simp[es,e1,e2]
  show Hc s4;let J:(b++zQ)[h.length]?=js4:=by rw[NC (à Y)];show Y
  let E:qf3:=by
   rw[Nq,Er (as:=Bk.map Q2),Nq];show Nh (Ė:_<=1300200) Ñ
  let S:Qe Z3 Ą qq7 ((rU p r d h.length nO).set 4 (sO (Ë b9))) js5=sO (À ((La.reverse++Bk.reverse).map Q2),zyf):=by
   refine K3 (x:=À b9) (h1:=zp1) rfl (y:=.ref qcb) (h2:=zyf) ?_ ?_
   ·unfold mFn;rw[J5 (x:=ģ) (h1:=zp1) rfl,Nj];unfold GY lsW;show jA J;rfl
   ·let lo:loW qc0 jQe=sO zy7:=by
     unfold loW;simp
    apply((loW m6 (Ë b9)).bind λP=>(loW m6 jQe).bind λN=>nu P N (W.lst (P++N),m6))=_;rw[lo];apply(if qf3 then sO (W.lst (La.reverse.map Q2++zy7),m6)else nO)=_;rw[Ò E,NU,O3 (l:=Bk)]
  let X:=e3 qc0;generalize(La.reverse++Bk.reverse).map Q2=LL at S X;let s6:=Xg (m:=Qb 0) (x:=Qw p) (h1:=b++zQ) rfl (J5 S);show QqN (VI s6 rfl X)
 ·let aa:b.length=jb1:=Sr a5
  rw[Ey,NC ĥ,a6 a jj2,NC u]
#print"-"
def QhN{ns:ψ}(f:xC9):YR ns∈ns/\∀n∈ns,n<=YR ns:=by
 let#[g,e]:=argBest_gt (λi=>xA0) zSc;let a:argBest qda zSc<ns.length:=Ė
 constructor
 ·unfold YR;rw[EH,Nl a];show Dw a
 ·intro n c;show Sf j b c;let d:=à b;let:=e j ĥ;rw[show xA1=n by rw[EH,b];rfl]at this;show this
def Qfm:∀{ns:ψ},QbW zI=sO ns:=by
 intro ns
 induction ns with
 |nil=>
  show rfl
 |cons n ns a=>
  rw[Nw];apply(QbW zI).map (n::·)=_;rw[a];rfl
def Qhr{ns:ψ}{h:MH}(a:xC9):QcN [À zI] h=sO (Â (YR ns),h):=by
 unfold QcN;simp only[lsW,Nj,Qfm];rw[Ò a]
abbrev rwW(e:BV):W:=Î [.int e.1.1,.tup nT,B5 e]
abbrev rwT(e:BV):Tr:=.t [.i e.1.1,.t xc1,.i e.2]
def Ql3:∀(l:Á),zW9 (plN 6)=zU7:=by
 intro l
 induction l with
 |nil=>
  show rfl
 |cons x l a=>
  show zii
def QoG(e:BV):plN 8 (rwW e)=sO (rwT e):=by
 let:plN 7 jO0=sO (.t xc1):=by
  apply((e.1.2.map W.str).mapM (plN 6)).map Tr.t=_;rw[Ql3];rfl
 apply(([W.int e.1.1,Î nT,B5 e]:Ã).mapM (plN 7)).map Tr.t=_;rw[Dh,Dh,Dh,this];rfl
def Qkd:∀(l:œ),plL zWc=sO xoa:=by
 intro l
 induction l with
 |nil=>
  show rfl
 |cons e l a=>
  rw[Nw];apply((plN 8 (rwW e)).bind λt=>(plL zWc).map (t::·))=_;rw[QoG,Nj,a];rfl
def QgQ(l:œ):One xoa:=by
 refine#[.i,[.l .s,.i],Ó t b];let#[e,_,rfl]:=Bh b;refine#[_,rfl,ė û (.cons #[_,rfl,Ÿ a] (dt û))];let#[y,_,rfl]:=Bh a;show p8 y
def Qe9{l:œ}{h:MH}:Wy [À zWc] h=zve:=by
 unfold Wy;simp only[lsW,Nj,Qkd];show Ŵ (QgQ l)
#print"-My"
namespace St
def Qqa(ks:Á):∃d:Á,Hy d/\lO d=true:=by
 refine#[ks.mergeSort (λa b=>qsd),List.mergeSort_perm _ _,?_];refine' sortedS_of_pairwise
 let:=List.pairwise_mergeSort (le:=λa b:Str=>qsd) (λa b c f e=>by
  rw[decide_eq_true_eq]at *;show List.le_trans f e) (λa b=>by
  rw[DC,decide_eq_true_eq,decide_eq_true_eq]
  show List.le_total _ _) ks
 show this.imp λh=>le_of_lt.mpr g7
def srt_spec(ks:Á):(srt ks).Perm ks/\sortedS (srt ks)=true:=by
 let#[a,p,h]:=Qqa ks;rw[srt_eq p h];show C6 p h
#print"-St"
namespace My
open L2 Mi My3 My4
def Qks{i:Type}{fin:Ŭ}{items:Ã}{src:ji}{b:MG}{mt:MT}{me:ME}{h:MH}(P:ig){enc g:i->W}{t:i->Bool}(n:Bz):∀(xs:ä i) (d:Ã) (e:MSt),P e->d.length+xs.length<=sizeLine ->
  (∀x∈xs,ju6 e h) ->
  qlf e=fin (d++(xs.filter t).map g) h:=by
 intro xs
 induction xs with
 |nil=>
  intro d e _ _ _;rw[Dg];unfold ZN;rw[Ò n];simp
 | cons x xs l=>
  intro d e p q m;let#[a,u,j,s,r]:=m x NF e p;let f:=λy o=>m y (NB x o);rw[NP]at q;rw[Nw];unfold ZN;rw[Ò n,u,Nj,s,Nj];cases c:t x with
  |true=>
   apply((me a h).bind λv=>if qW5 then zVc qGc (d++[v.1]) a v else nO)=_;rw[r c,Nj,if_pos ĥ,l _ a j xV f];simp[c]
  |false=>
   apply qlf a=_;rw[l _ a j ĥ f];simp[c]
def Qew{c:Type}{fin:Ŭ}{mi:MI}{cp:ϓ}{items:Ã}{src:ji}{b:MG}{mt:MT}{me:ME}{σ:MSt}{h h1:MH}(P:ig){enc g:c->W}{t:c->Bool}{xs:ä c}(hi:qq0)(l:items=xs.map enc)(i:live src items h1)(j:P dn)(f:Bx)
  (e:∀x∈xs,ju6 d h1):zO4 b=fin ((xs.filter t).map g) h1:=by
 show jbd;apply ZN fin items src b mt me items [] dn h1=_;let:=Qks (fin:=fin) (items:=items) (src:=src) (b:=b) (mt:=mt) (me:=me) P i xs [] dn j (ĝ f) e;rw[<-l]at this;rw[this,Dj]
def fn9{f:Ŭ}{ms:MA}{σ:MSt}{h h1:MH}{as:Ã}{r:Þ}(e:zJa)(a:jl5=r):xl8=r:=by
 unfold mFn;rw[e,Nj,a]
def QmY{p:È}{s:Spt}{w:Str}(h:BK=sO w):w∈Wds p:=by
 unfold mdS at h;show d8 h
 ·let#[x,a,h]:=ĸ h;let#[l,b,h]:=ĸ h;let:w∈prw p:=DI.mpr #[x,Ej a,IG.mpr #[l,Ej b,h]];show(St.srt_spec _).1.mem_iff.mpr ((St.uniq_mem _ _ rfl w).mpr this)
abbrev kyL(p:È)(out:Æ):Ĳ:=(List.range out.length).map λn=>(n,Wds p)
def ky_mem{p:È}{out:Æ}{k:Ky}:k∈jff↔xii/\k.2=Wds p:=by
 unfold kyL;show ĉ n w k;simp[Ny];constructor
 ·rintro⟨a,h,rfl,rfl⟩;show p8 h
 ·rintro⟨h,rfl⟩;show#[n,h,rfl,rfl]
def Qsd{p:È}{out:Æ}:(kyL p out).Nodup:=by
 unfold kyL List.Nodup;rw[FZ];show List.Pairwise.imp (λh e=>h (congrArg Prod.fst e)) Ir
abbrev mo(p:È)(M:â)(x2 x3 x4 x5 x6 x7 x8:Û):MSt:=[ď,sO Ι,x2,x3,x4,x5,x6,x7,x8]
section
variable{p:È}{out:Æ}{M:â}{C:Addr}{K:Ĳ}{G:GA}{D:œ}{B:jM}{c r aN aR aA:Nat}{h:MH}
def Qsn{f:Type}:∀{L:List (Ky×f)},(L.map (·.1)).Nodup->∀e∈L,tv L e.1=sO e.2:=by
 intro L
 induction L with
 |nil=>
  intro _ e b;cases b
 | cons x L g=>
  intro d e b;rw[Nw,Ei]at d;unfold tv;rw[NV]
  by_cases z:x.1=e.1
  ·rcases HN b with rfl|a
   ·simp
   ·show absurd (Sy #[e,a,z.symm]) d.1
  ·rcases HN b with rfl|a
   ·show T4 z
   ·rw[show decide (x.1=e.1)=false from ϔ z];show g d.2 e a
def Qqt(hd:D.map (·.1)=K){k:Ky}(hk:k∈K):jB D=sO zf4:=by
 show jB7 (by rw[hd];show hk);rfl
def Qez(H:ŷ)(hd:D.map (·.1)=K){k:Ky}(hk:k∈K){m1 m2:ME}{σ:MSt}(b:ĺ m1=sO (Ä r,h))(a:ĺ m2=xC0):Qe Vu (Py m1) m2 σ h=sO (Â zf4,h):=
 K3 (un9 b zUb) a (Qcp (f:=W.int) H.n (Qqt hd hk))
def Qo1(H:ŷ)(hd:D.map (·.1)=K){d:Ĳ}(j:∀k∈d,k∈K)(l:qS4)(h0:0<d.length){x2 x3:Û} :
  mFn QcN (ľ (jf eR jeh (Bj (Py Ö) Ù))) (mo p M x2 x3 jG4 cY nO nO nO) h=sO (Â (YR (d.map sF)),h):=by
 let:=Qew (fin:=Zf) (mi:=Qm Ą) (cp:=jeh) (b:=QM 0) (mt:=Vz) (me:=Qe Vu (Py Ö) Ù) (σ:=mo p M x2 x3 jG4 cY nO nO nO) (h:=h) (h1:=h) (src:=nO) (items:=d.map Qu) (xs:=d) (enc:=Qu) (g:=λk=>Â zf4) (t:=i7) (zi f [a,Ty]) rfl rfl Tc û l (by
  rintro k hk f ⟨a,rfl⟩
  show#[_,rfl,û,rfl,λ_=>Qez H hd (j k hk) rfl rfl])
 let e:(d.filter i7).map (λk=>W.int zf4)=(d.map sF).map .int:=by
  rw[Iz.mpr Ŗ,Ec];rfl
 rw[e]at this;show fn9 xAb (Qhr (ja8 h0))
def Qk1(H:ŷ)(hd:D.map (·.1)=K){b:Ĳ}(f:∀k∈b,k∈K)(i:bL){n:Int}{x2 x3:Û} :
  QC Zf eR xi0 ű (ĭ (ă qa8 Ö)) Ù (mo p M x2 x3 (sO jNg) cY Sd nO nO) h=sO (À ((b.filter (ju k zWd)).map Qu),h):=by
 refine Qew (fin:=Zf) (h1:=h) (src:=nO) (items:=b.map Qu) (xs:=b) (enc:=Qu) (g:=Qu) (t:=ju k zWd) (zi d [a,Ĝ n,Ty]) rfl rfl Tc û i ?_
 rintro k hk d ⟨a,rfl⟩
 refine#[_,rfl,û,?_,ſ];let m:=Qez (m1:=Qb 2) (m2:=Qb 0) (σ:=zm3) H hd (f k hk) rfl rfl;let l:Qe wEq qa8 Ö zm3 h=sO (ñ (AK zWd),h):=K3 m rfl (by simp;show Ew.mpr Å);apply Qg _ zm3 h=_;unfold Qg;rw[l];rfl
def QlU(H:ŷ)(hd:D.map (·.1)=K)(o:K.Nodup)(u:qS6){x2 x3 x4 x6 x7:Û} :
  mFn Wy (ľ (QC Zf (XT zwi) zW0 Se Vz (í (jF (ϡ (ê (Bj zwh (Ŝ Q1 (Qa Ù qL8))))))))) zpf h=zve:=by
 let ei:XT zwi zpf h=sO ((tb W.int D).map (·.1),sO (.d aN),h):=by
  let:mUn (zxc C) Ģ zpf h=xjb:=un9 rfl zUb;unfold XT;rw[this,Nj];simp only[H.n]
 let:=Qew (fin:=Zf) (mi:=XT zwi) (cp:=zW0) (b:=iG) (mt:=Vz) (me:=wT (jF (ϡ (ľ (Bj zwh (í (Qa Ù (ê Ö)))))))) (xs:=D) (enc:=λe=>zj0) (g:=rwW) (t:=i7) (Mu f [a,b,Ty]) ei (by simp[tb,Da]) (λn s=>by show ï s #[_,H.n,rfl]) Aw u (by
  rintro e j f ⟨a,b,rfl⟩
  refine#[jo2,rfl,Aw,rfl,iC];let hk:e.1∈K:=by rw[<-hd];show zac e j
  let l:=Qez (m1:=Qb 2) (m2:=qg1) (σ:=jo2) H hd hk rfl rfl
  let q:tvZ D e.1=e.2:=by
   unfold tvZ;rw[Qsn (by rw[hd];show o) e j];rfl
  rw[q]at l
  show fn9 (Xg (m:=Qb 0) (x:=.int e.1.1) (h1:=h) rfl (Xg (m:=Qb 1) (x:=Î nT) (h1:=h) rfl (J5 l))) rfl)
 rw[Iz.mpr Ŗ]at this;show fn9 xAb Qe9
#print"-"
section
variable{bs ws:Á}{p:È}{out:Æ}{M:â}{C:Addr}
def Qpi{x2 x3 x4 d:W}{r:Nat}{N:Int}{e:Ã}{f:W}{H h2:MH}(i:zlb d H=Ď f H)(g:Jg C [Qw p,Ä r,f] H=sO (À e,h2)) :
  QU (í (Qa qF7 (Qa Ŕ (Qa (jYf (Jg C)) (É Ũ))))) (mo p M (sO x2) (sO x3) (sO x4) cY (sO (Ĕ N)) (sO d) (sO jdf)) H=sO (.rt (ġ [xN,Â N,À e,sh]) h2):=by
 generalize Jg C=F at g
 let h:Qh 3 F (ķ qd2) (mo p M (sO x2) (sO x3) (sO x4) cY (sO (Ĕ N)) (sO d) (sO jdf)) H=sO (À e,h2):=
  VI (Xg (m:=Qb 0) (x:=Qw p) (h1:=H) rfl (Xg (m:=Qb 5) (x:=Ä r) (h1:=H) rfl (J5 (K3 (a:=Qb 7) (x:=d) (h1:=H) rfl (b:=mC zj) (y:=ux) (h2:=H) rfl i)))) rfl g
 show QqN (fn9 (Xg (m:=mC qqg) (x:=xN) (h1:=H) rfl (Xg (m:=Qb 6) (x:=Â N) (h1:=H) rfl (Xg h (J5 (m:=Qb 8) (x:=sh) (h1:=h2) rfl)))) rfl)
set_option maxHeartbeats 1000000 in
def Qmr(y:u9)(j:jS)(A:é)(h0:CF)(v:∀s∈out,Bg)(d:Œ)(hM:μ)(eg:YK Tx []=sO (.non,[]))(S:AB) :
  ∃(N:Int) (L:Ì) (g:MH),KC C Tx []=sO (Î zm1,g):=by
 let pos:zb5:=A.pos;let z:=(Gx y j).2.1;let ew:=YE y j [];let#[Q,hQ,eQ]:=GV (M:=M) y A hM;let l:=eQ [];rw[Dj]at l
 let kk:∀k∈jff,cF:=λk hk=>by
  let#[f,E]:=ky_mem.mp hk;show#[f,by rw[E];show List.Sublist.refl _]
 let#[aN,aR,aA,K,G,D,B,c,f,e5,H,Z,o,sub,fr,few]:=QgA (C:=C) (M:=M) (h0:=[yN]) (n0:=0) A S hQ d z rfl (keys:=jff) Qsd kk;let X:zN9=out.length:=by unfold kyL;simp
 let i:zN9<=sizeLine:=by rw[X];show S0 d
 let dl:qS6:=by
  let:(D.map (·.1)).length=K.length:=by rw[o.kd]
  rw[Nq]at this;rw[this];show Nh few Ñ
 let U:0<zN9:=by rw[X];show pos
 let s3:mFn Kq (É nF) (mo p M tE nO nO nO nO nO nO) []=sO (Î Cg,[]):=fn9 (J5 (VI qyg rfl ew)) rfl
 let er:YT (ľ (ş (ê PC))) zy8 []=sO (QA 0 out.length,nO,[]):=by
  let s:Qh 1 ZG qj zy8 []=sO (À ε,[]):=VI qyg rfl (A.s []);refine VC ?_ (ź d);show J5 (fn9 (J5 s) Å)
 let s4:QC Zf qj0 BN ű Vz (í js6) zy8 []=sO (À nQ,[]):=by
  let:=ZS (fin:=Zf) (cp:=BN) (me:=qg1) (caps:=[sO gU]) (λw=>Î [w,.tup Cg]) er û (λw _=>rfl) (by rw[WO];show S0 d);rw[this]
  let e:(QA 0 out.length).map (λw=>W.tup [w,Î Cg])=(kyL p out).map Qu:=by
   unfold QA kyL Qu;simp[Da]
  rw[e];rfl
 let s5:Qh 2 (Zx C) (Qa qeh wB) jT0 []=sO (Tn,f):=by
  let s:Qh 2 VN js6 jT0 []=sO (Ţ,[yN]):=VI (Xg (m:=Qb 0) (x:=Qw p) (h1:=[]) rfl (J5 (m:=Qb 1) (x:=À ŏ) (h1:=[]) rfl)) rfl l;show VI (Xg s (J5 (m:=Qb 4) (x:=À nQ) (h1:=[yN]) rfl)) rfl e5
 let P:=Qo1 (p:=p) (M:=M) (x2:=iy) (x3:=sO gU) H o.kd sub i U;let t:=Qk1 (p:=p) (M:=M) (x2:=iy) (x3:=sO gU) (n:=YR que) H o.kd sub i;let#[bm,_]:=QhN (ns:=(kyL p out).map sF) (ja8 U);generalize hN:YR que=N at P t bm;generalize Y:(kyL p out).filter (λk=>decide (tvZ D k=N))=bst at t;let s8:=QlU (p:=p) (M:=M) (x2:=iy) (x3:=sO gU) (x4:=sO (Ë nQ)) (x6:=Ĝ N) (x7:=sO (Ë (bst.map Qu))) H o.kd Z.kn dl
 obtain⟨h,F,rfl⟩:∃h F,bst=h::F:=by
  let#[k,hk,he]:=Ny.mp bm;let:k∈bst:=by rw[<-Y];show EM.mpr #[hk,decide_eq_true he]
  cases bst with
  |nil=>cases this
  |cons a b=>show#[a,b,rfl]
 let u:h∈K:=sub h (EM.mp (za2 Y)).1;let#[L,E,e9,ae]:=Qd9 (C:=C) A h0 v S Z H o d few u;refine#[N,L,E,?_]
 ·unfold KC QD;refine Qcm (Zj xj8 ?_);refine Zj (σ1:=mo p M tE nO nO nO nO nO nO) (h1:=[]) rfl ?_;show(Hc s3,Hc s4,Hc s5,Hc P,Hc t,Hc s8);let hx:zlb (Ë ((h::F).map Qu)) f=sO (Qu h,f):=Ç
  show Qpi hx e9
def QmP(n:u9)(b:jS)(A:é)(h0:CF)(d:∀s∈out,Bg)(i:Œ)(o:μ) :
  ∃v:W,(zU9\/∃(N:Int) (L:Ã),v=Î [xN,Â N,À L,sh]/\AB)/\∀h:MH,GZ C Tx h=Ď v h:=by
 show qif c
 let#[w,hw,t]:=QfG (M:=M) n b A h0 d i o
 rcases hw with⟨rfl,y⟩|hw
 ·let a:AB:=λu e E j B=>y u (QmY j) e E j B;let#[N,L,g,em]:=Qmr (C:=C) n b A h0 d i o (t []) a;refine#[_,ô #[N,L.map PB,rfl,a],Ū];let hL:=Zu zo2 _ (Ym (f:=PB) (l:=L) zsc)
  let:=XY (m:=KC C) (args:=Tx) (as:=Tx) (ns:=[]) (os:=[]) (os':=[]) (g:=g) (h:=h) (w':=Î zm1) (X5 c) Å rfl em rfl Å (by
   rw[Dj]
   let D:th zo2 (Ë pV)=sO (Ë pV):=by
    unfold th;rw[hL];rfl
   apply(ths _ zm1).map W.tup=_;unfold ths ths ths ths ths;rw[D]
   rfl)
  unfold GZ;simpa[QH]using this
 ·refine#[w,.inl hw,λh=>Qs (g:=[]) c ?_ ?_]
  ·let z:Qe JO å Cp zCf []=sO (ξ,[]):=by
    let#[_,_,_,_,_,_,_,_,_,_,rfl]:=hw;rfl
   refine Qcm (Zj (QK (t [])) (Qq4 ?_))
   let:Qg (xj å) zCf []=sO (true,[]):=by
    unfold Qg;rw[z];rfl
   apply Zd _ _ _ zCf []=_;unfold Zd;show Ο
  ·let#[_,_,_,_,e,La,Lb,_,_,_,rfl]:=hw;show jyc
#print"-"
structure Rm where
 w:Str
 s:Spt
 b:Bool
abbrev rO(r:Rm):MO:=À [.str r.w,Qf r.s,.bl r.b]
abbrev r0:Rm:=#["",zN6,false]
abbrev gt(R:ú)(i:Nat):Rm:=R.getD i r0
abbrev ixs(R:ú):Ì:=(List.range R.length).filter zp2
abbrev kil(gone:Á)(r:Rm):Rm:={ r with b:=decide (r.w∉gone) }
abbrev fin(gone:Á)(r:Rm):Rm:=if r.b=true then kil gone r else r
abbrev prR(r:Rm):Str×Spt:=(r.w,r.s)
abbrev Qcu(R:ú):CH:=(R.filter (·.b)).map prR
def QeU(R:ú):(List.range R.length).map (gt R)=R:=by
 refine' List.ext_getElem
 ·simp
 ·intro i b a;simp[gt,a]
def Qmz(R:ú):(ixs R).map (gt R)=R.filter (·.b):=by
 conv=>rhs;rw[<-QeU R]
 rw[Fj];rfl
def Ws{R:ú}{i:Nat}(h:zv8):CP:=by
 unfold ixs at h;rw[EM,Ep]at h;show h.1
def Qnk{R:List Rm}{i:Nat}(h:i<R.length):zv8↔(gt R i).b=true:=by
 unfold ixs;rw[EM,Ep];show#[λz=>z.2,λz=>#[h,z]]
def QqC(R:ú):(ixs R).Nodup:=Ybi Od Ir
abbrev Qf7(gone:Á)(R:ú)(is:Ì):ú:=(List.range R.length).map λi=>if i∈is then qK6 else gt R i
def QhT{gone:Á}{R:ú}:Qf7 gone R []=R:=by
 show QeU R
def Ut{gone:Á}{R:ú}{is:Ì}:(Qf7 gone R is).length=R.length:=by simp[Qf7]
def Qad{gone:Á}{R:ú}{is:Ì}{i:Nat}(h:CP):(Qf7 gone R is)[i]?=sO (if i∈is then qK6 else gt R i):=by
 unfold Qf7;rw[Np,EZ h];rfl
def Qin{gone:Á}{R:ú}{is:Ì}{i:Nat}(h:CP):(Qf7 gone R is).set i (kil gone fg)=Qf7 gone R (is++[i]):=by
 show cB
 show lZ b j R
 ·rw[FW,Qad b,Qad b,Ut]
  show Ě a i j
  ·subst a;simp[h]
  ·simp[a,N8 a]
 ·rw[qK7,qK7]
def Qhx{gone:Á}{R:ú}:Qf7 gone R (ixs R)=wL:=by
 conv=>rhs;rw[<-QeU R]
 rw[Ec];refine EJ (Ó i c);let:=Qnk (Ep.mp c);apply _=zK4;unfold fin
 by_cases a:re=true
 ·rw[Ò a,if_pos (this.mpr a)]
 ·rw[Õ a,if_neg (λz=>a (this.mp z))]
def Qh3{gone:Á}{R:ú}:Qcu yu=(Qcu R).filter (λx=>decide (x.1∉gone)):=by
 unfold Qcu
 induction R with
 |nil=>rfl
 | cons r R a=>
  rw[Nw,E7,E7]
  by_cases c:r.b=true
  ·by_cases d:r.w∈gone
   show qCd
   show qCd
  ·simp[fin,c]at a ⊢;show a
abbrev liv(gone:Á)(R:ú):Ì:=(ixs R).filter (ju i (zed∉gone))
def QnM{R:ú}:(ixs R).map (λi=>prR fg)=Qcu R:=by
 unfold Qcu;rw[<-Qmz,Ec];rfl
def QfP{R:ú}{w:Str}{s:Spt}:Qcu (R++[eD])=Qcu R++[(w,s)]:=by simp[Qcu,prR]
noncomputable abbrev rf(i:Nat):W:=Ä (i+2)
noncomputable abbrev Rcd:=Ì×Ì
abbrev Wh(c:Rcd):W:=Î [À (c.1.map rf),À (c.2.map rf)]
abbrev hk(R:ú)(F:Ag):MH:=À ((List.range R.length).map rf)::À qOf::R.map rO
def Qk8{R:ú}{F:Ag}{i:Nat}{r:Rm}(h:R[i]?=sO r):(hk R F)[i+2]?=sO (rO r):=by
 apply(R.map rO)[i]?=_;rw[Np,h];rfl
def Y9{R:ú}{i:Nat}(h:CP):R[i]?=sO fg:=by
 rw[Nl h];simp[gt,h]
noncomputable abbrev kS(p:È)(mn rn:W)(x5 x6 x7 x8 x9:Û):MSt:=[ď,sO mn,sO rn,sO ç,Ν,x5,x6,x7,x8,x9]
def QfY{p:È}{mn rn:W}{x5 x7 x9:Û}{gone:Á}{R:ú}{F:Ag}{i:Nat}{r:Rm}(hi:R[i]?=sO r) :
  ZQ jWh um=sO (ì jWh (hk qGd F)):=by
 let b:=Qk8 (F:=F) hi
 let a:(hk R F).set (i+2) (Ë [.str r.w,Qf r.s,ñ (uE (r.w∈gone))])=hk qGd F:=by
  apply _::_::(R.map rO).set i _=_;unfold hk;rw[Eo,O4];simp[rO,kil]
 simp[b,rO,inL,ixN,a]
def Qfq{p:È}{mn rn:W}{x5 x8' x9:Û}{gone:Á}{R:ú}{F:Ag} :
  ∃x8,Zt zC nO jkg ZQ zC jU7 um=sO (ì (kS p mn rn x5 xF kX x8 x9) js7):=by
 let a:=Q9 (items:=xjd) (b:=QM 8) (body:=ZQ) (λn o h=>∃x8,o=kS p mn rn x5 xF kX x8 x9/\h=hk (Qf7 gone R ((ixs R).take n)) F)
  zC 0 jU7 um #[x8',rfl,by rw[List.take_zero,QhT]] (by
   show(xf1 q o x8,A4 i l q,zld s g l);let f:zv8:=NN.mpr (ę j l);let d:=Ws f;rw[NO]
   let c:i∉(ixs R).take j:=by
    intro z;let#[k,hk,e]:=Dz.mp z;rw[EK]at hk;rw[List.getElem_take]at e;let:=(Il (QqC R)).mp (Hl e g);omega
   let m:(Qf7 gone R ((ixs R).take j))[i]?=sO fg:=by rw[Qad d,Õ c]
   refine#[_,rfl,_,_,ß (QfY m),sO zi5,rfl,?_];rw[Qin d,Ii,l]
   rfl)
 let#[r,t,e,x8,rfl,rfl]:=a;rw[Nq,NO,Ef,Qhx]at e;show C6 x8 e
set_option backward.eqns.nonrecursive false in
abbrev gB(R:ú):Th
 |Ä n=>(gt R (n-2)).b
 |_=>false
def UX{R:ú}{F:Ag}{mi:MI}{σ:MSt}{is:Ì}{src:ji}(hi:mi σ um=sO (is.map rf,src,p6))(d:live src xob um)(g:∀i∈is,CP)(j:is.length<=sizeLine) :
  QC Zf mi [nO] ű zLj Ù σ um=sO (À ((is.filter zp2).map rf),p6):=by
 let l:=XX (fin:=Zf) (mi:=mi) (cp:=[nO]) (b:=QM 0) (mt:=JP Ma) (me:=Qb 0) (σ:=σ) (h:=p6) (items:=is.map rf) (src:=src) (zi f [a]) (gB R) id hi d û (λw hw f #[a,c]=>by
  subst c;let#[i,hi,rfl]:=zhi;let e:=Qk8 (F:=F) (Y9 (g i hi));refine#[[sO zi5],rfl,û,?_,ſ]
  simp[e,rO,gB]) (ĝ j)
 rw[l,Fj,Oj];rfl
abbrev Qc3(R:ú)(o:uu)(s:Spt):ú:=match o with
 |è w=>R++[eD]
 |none=>R
def QhL{R:ú}{o:uu}{s:Spt}:Qcu (Qc3 R o s)=Qcu R++o.toList.map (λw=>(w,s)):=by
 cases o with
 |none=>simp[Qc3]
 |some w=>simp[Qc3,QfP]
def QhA{R:ú}{o:uu}{s:Spt}:R.length<=qVa/\qVa<=R.length+1:=by
 cases o<;>simp[Qc3]
def Qjq{gone:Á}{R:ú}{i:Nat}(h:CP):gt yu i=zK4:=by simp[gt,h]
def Qh9{gone:Á}{R:ú}:((ixs R).filter λi=>(gt yu i).b)=liv gone R:=by
 refine OL (Ó i c);let a:=Ws c;let d:=(Qnk a).mp c;rw[Qjq a];simp[fin,d,kil]
def QaY{R:ú}{F:Ag}{c:Rcd}:(hk R F).set 1 (Ë (F.map Wh++[Wh c]))=hk R (F++[c]):=xCa
def QkJ{R:ú}{F:Ag}{r:Rm}:((p6++[rO r]).set 0 (Ë ((List.range R.length).map rf++[Ä (R.length+2)])))=hk (R++[r]) F:=by simp[hk,FQ]
def QnK{R:ú}{F:Ag}:(hk R F).length=R.length+2:=xCa
def QdM{p:È}{N:Nat}{bs ws:Á}(S:Ğ){M:â}{rn:W}{s:Spt}{x6 x7 x8 x9:Û}{R:ú}{F:Ag}(Y:μ)(P:Ϡ s)(X:R.length<=6000000)(hF:F.length<=6000000) :
  ∃B A a z,Vm (qre x6 x7 x8 x9) um=sO (ì (qre B A a z) (hk xI8 (F++[(ixs R,liv qzd R)]))):=by
 let eg:∀h,jW3:=λh=>Qa5 Y;let em:∀h,zAe:=λh=>UL S P;generalize ř s=gone at *;generalize BK=o at *;let H:R.length<sizeLine:=uc X;let E:F.length<sizeLine:=Ni hF Ñ;let Q:(ixs R).length<=R.length:=by let:=E2 (λi=>re) (List.range R.length);simpa[ixs]using this
 let u:=UX (R:=R) (F:=F) (mi:=Qm æ) (σ:=jW5 x7 x8) (is:=List.range R.length) (src:=sO (.l 0)) (by unfold Qm Qb;simp[VW,hk]) (λn f=>by cases f;rfl) (λi g=>Ep.mp g) xV;let#[a,e8]:=Qfq (p:=p) (mn:=À ŏ) (rn:=rn) (x5:=sO Μ) (x8':=x8) (x9:=x9) (gone:=gone) (R:=R) (F:=F);let t:=UX (R:=wL) (F:=F) (mi:=Qm š) (σ:=jW5 kX a) (is:=ixs R) (src:=nO) (by unfold Qm Qb;simp[VW]) Tc (λi g=>by simpa using Ws g) ĥ;rw[Qh9]at t;let q:((List.range R.length).filter zp2)=ixs R:=rfl;rw[q]at u;let ei:∀x8 (h:MH),Qm š (zx4 x8 x9) h=sO (xjd,nO,h):=Ŗ;let j:∀R,qk0:=λR=>rfl;let U:∀F:Ag,(hk yu F)[0]?=js9:=λF=>rfl;let fd:=QaY (R:=wL) (F:=F) (c:=zNa);simp only[Wh]at fd;refine#[Aj xGg,sO (Ë zC),a,sO qe,?_]
 let ap:∀{x:W} {n:Nat} {d:Ã} {h:MH},h[n]?=Aj d->qW5->xyf [x]=sO (.non,ϝ (Ë (d++[x]))):=λ{x n d h} f J=>by
  unfold Qp;show jA f;rw[Ò J]
 let D:QS jti js8 js7=sO (ì js8 ztf):=by
  refine G3 (v:=.non) (mt9 (o:=Tn) (h1:=zV5) rfl rfl (J5 (fn9 (Xg (x:=À zC) (h1:=zV5) rfl (J5 t)) (r:=sO (Wh zNa,zV5)) rfl)) ?_);rw[ap (j _) (ja8 E),<-QaY]
 refine Zj (QK (eg _)) (Zj (QK u) (Zj (VZ (b:=QM 8) (body:=ZQ) (ei _ _) e8) (Zj D (Zj (QK (em _)) ?_))));cases o with
 |none=>rfl
 | some w=>
  let Z:∀(L:MH),(zwj++L)[0]?=js9:=ſ;apply Zd _ _ _ ztg ztf=_
  let st:QS jAc ztg ztf=sO (ì ztg (hk (wL++[eD]) mq)):=by
   refine G3 (v:=.non) (mt9 (o:=Ţ) (h1:=zwj) rfl rfl (J5 (x:=.ref (hk yu mq).length) (h1:=zwj++[rO eD]) rfl) ?_);rw[ap (Z _) (ĝ H),QnK,QkJ]
  show st
set_option backward.eqns.deepRecursiveSplit false in
abbrev Qc2(M:â)(p:È):CH->Æ->List (HP xve)
 |_,[]=>[]
 |a,s::r=>a::Qc2 M p (jQf++qsc) r
def Qfg{R:ú}{gone:Á}{o:uu}{s:Spt}{i:Nat}(h:CP):prR (gt qkb i)=prR fg:=by
 let a:gt qkb i=zK4:=by
  rw[<-Qjq h];cases o with
  |none=>rfl
  |some w=>unfold Qc3 gt;rw[EH,EH,NC g7]
 rw[a];unfold fin;split<;>rfl
abbrev Wv(R:ú)(i:Nat):W:=À jY4
abbrev rcV(R:ú)(c:Rcd):W:=Î [À (c.1.map RN),À qI6]
def QjG{R:ú}{F:Ag}{kp:zo1}(a:zW4):∀(is:Ì),(∀i∈is,CP)->ths RJ xob=sO mY:=by
 intro is
 induction is with
 |nil=>
  show sf
 | cons i is d=>
  show zvf d j f;let e:=Qk8 (F:=F) (Y9 (h i NF))
  let:th RJ zi5=sO jfg:=by
   show zCe c (res kp um 1) jY4;simp only[rf,th,res,a,e,rO,Wv]at c ⊢;rw[c];rfl
  show Ο
def QsE{R:ú}{F:Ag}{kp:zo1}(a:zW4):∀(G:Ag),(jv6 G)->ths RJ (G.map Wh)=sO (G.map ja9):=by
 intro G
 induction G with
 |nil=>
  show sf
 | cons c G b=>
  show zvf b j d;let#[f,e]:=y0 c
  let:th RJ (Wh c)=sO (rcV R c):=by
   simp only[Wh,th,ths,QjG a c.1 f,QjG a c.2 e];rfl
  show Ο
def Qkw{p:È}{N:Nat}{bs ws:Á}(hg:Ğ){M:â}{run:Æ}(hM:μ)(x:∀s∈run,Ϡ s)(hl:run.length<=5000000) :
  ∃(R:ú) (F:Ag),zq6=xje/\F.length=run.length/\∀h:MH,Z0 zr4 h=sO (jLg,h):=by
 let u:=Q9 (items:=zee) (b:=QM 5) (body:=Vm) (λn I h=>∃(R:ú) (F:Ag) (A t r q l:Û),I=kS p Ι (Ë u5) A t r q l/\h=p6/\R.length<=n/\F.length=n/\(jv6 F)/\zq6++Qc2 M p (Qcu R) (run.drop n)=xje)
  u5 0 jX3 (hk [] []) #[[],[],nO,nO,nO,nO,nO,rfl,rfl,NA _,rfl,Ç,by simp[Qcu]] (by
   rintro j w J I h ⟨R,F,A,t,r,q,l,rfl,rfl,hR,hF,z,a⟩
   show pO J s D E;let B:=x s (A8 j D);let#[U,S,Q,P,e]:=QdM hg (M:=M) (rn:=À u5) (s:=s) (x6:=t) (x7:=r) (x8:=q) (x9:=l) (R:=R) (F:=F) hM B ĥ ĥ;let#[v,Y]:=QhA (R:=R.map zGj) (o:=BK) (s:=s);rw[Nq]at v Y;refine#[_,rfl,_,_,ß e,_,_,sO Μ,U,S,Q,P,rfl,rfl,Ė,by simp[hF],Ó c f,?_]
   ·show Λ f
    show Ħ #[λi d=>Ng qY3 v,λi d=>Ng ((z c f).2 i d) v]
    ·show Bp f #[λi d=>Ng (Ws d) v,λi d=>Ng (Ws (EM.mp d).1) v]
   ·rw[<-a,Ek E];let C:run[j]=s:=(Nd.mp D).2;rw[C,Qc2,NU,Ey,QhL,Qh3];let k1:F.map (λc=>c.1.map λi=>prR jYb)=zq6:=EJ λc f=>EJ λi d=>Qfg qY3
    let Z:(ixs R).map (λi=>prR jYb)=Qcu R:=by
     rw[<-QnM];show EJ λi d=>Qfg (Ws d)
    rw[k1,Nw,Dg,Z]
    rfl)
 let#[L,h',H,R,F,A,t,r,q,l,rfl,rfl,hR,hF,z,a]:=u;rw[Nq,NO]at hF a;rw[List.drop_length,Qc2,EN]at a;refine#[R,F,a,hF,Ū]
 let:=XY (m:=Z9) (args:=zr4) (as:=zr4) (ns:=[]) (os:=[]) (os':=[]) (g:=p6) (h:=h) (w:=Tn) (w':=jLg) (X5 Å) Å rfl (by
  let ei:∀(h:MH),Qm å jX3 h=sO (zee,nO,h):=ſ;simp only[kS,hk]at H ei;simp at H;simp[Z9,QD,Jd,ei,H,hk]) rfl Å (by
  let y:qB6:=xbb
  apply th (zzc um) vO=_;let h0:qk0:=rfl;show SS;simp only[y 1,h0,QsE y F z]
  rfl)
 apply box frN Z9 _ _=_;show Av
def Qvm{s:Spt}{L:Æ}:inW Μ A6=uw s L:=by
 induction L with
 |nil=>simp[inW]
 |cons t L a=>
  show sM a;rw[Nw,De,a,Qr1,Ew,DC,decide_eq_true_eq,decide_eq_true_eq,decide_eq_true_eq,NJ];show qOg
def QpF{s:Spt}:dep Μ<=40:=qzj
def QvJ{L:Æ}:Ka A6=true:=Xw λw hw=>by
 show(A5 s,GI)
def QwN{L:Æ}:Wj A6<=39:=Xt λw hw=>by
 show(A5 s,qzj)
def Qsm{a b:Spt}{h:MH}:wEq zk5 jk5 h=sO (ñ (AK (a=b)),h):=by rw[Qrl GI GI QpF QpF,Qr1]
def Qqd{a b:Spt}{h:MH}:wNe zk5 jk5 h=sO (ñ (uE (a=b)),h):=by rw[Qq1 GI GI QpF QpF,Qr1]
def Qtq{g:Bool}{s:Spt}{L:Æ}{h:MH}:wIn g Μ (Ë A6) h=zzi s L:=by rw[Qb6 GI QvJ QpF (Nh QwN Ñ),Qvm]
def QvK{q:Pl}{L:B7}:inW Tg zd7=uw q L:=by
 induction L with
 |nil=>simp[inW]
 | cons t L f=>
  let e:eqW (QZ t) Tg=cI t q:=by
   show(ĉ a b t,ĉ c d q);rw[Ew];simp[QZ,Qg4,Qge,QbF,Qie,Int.ofNat_inj]
  show sM f;rw[Nw,De,f,e,Ew,DC,decide_eq_true_eq,decide_eq_true_eq,decide_eq_true_eq,NJ];show qOg
def QvI{L:B7}:Ka zd7=true:=Xw λw hw=>by
 show(A5 s,QbR)
def QvL{L:B7}:Wj zd7<=40:=Xt λw hw=>by
 show(A5 s,Nh QbV Ñ)
def Qop{g:Bool}{q:Pl}{L:B7}{h:MH}:wIn g Tg (Ë zd7) h=zzi q L:=by rw[Qb6 QbR QvI R7 QvL,QvK]
def neB{a b:Bool}{h:MH}:wNe (.bl a) jp h=jM8:=by rw[qde];rfl
def Qjh{g:Bool}{l:List Bool}{h:MH}:wIn g uD (Ë zb8) h=sO (ñ (if g=true then l.all id else !(l.all id)),h):=by
 let c:Ka zb8=true:=Xw λw hw=>by
  show A5 b;rfl
 let hd:Wj zb8<=40:=Xt λw hw=>by
  show A5 b;simp[dep]
 rw[qwf c]
 let:(!inW uD zb8)=l.all id:=by
  clear c hd
  induction l with
  |nil=>rfl
  |cons b l a=>
   show sM a;rw[Nw,De,Os,<-a];show ST b
 rw[<-this];cases g<;>simp
def lnR{p:È}{s:Spt}{L:Æ}{h:MH}(e:zy):VF mF h=sO (ģ,h++[À A6]):=
 W6 (o:=À A6) Å e rfl Å
abbrev pls(M:â)(wd:Str):B7:=(M.filter λm=>m.1=wd).map (·.2)
def Qmx{M:â}{wd:Str}{q:Pl}:q∈sx↔lH∈M:=by
 unfold pls;show qM2;show#[λ#[m,ę c b,a]=>by rw[<-b,<-a];show c,jw h jK0]
section
variable{p:È}{out:Æ}{M:â}{wd:Str}{s:Spt}
abbrev Rq(p:È)(out:Æ)(M:â)(wd:Str)(s x:Spt):Prop:=∃m,(ixS out s,m)∈Ρ/\qI1 (lQ x)
abbrev Dn(M:â)(wd:Str)(s:Spt)(met wt:Æ)(z:Spt):Prop:=z∈wt\/z≠s/\(z∈met\/wd∈ř z)
structure Si(p:È)(out:Æ)(M:â)(wd:Str)(s:Spt)(met wt:Æ):Prop where
 wm:∀x∈wt,lq/\za8 x
 mm:∀x∈met,lq/\za8 x/\wd∉ř x
 nd:met.Nodup
 c0:∀z∈Ha,qVb
 cl:∀y∈met,∀z∈nx p y,qVb
def QeH{l:Æ}(h:l.Nodup)(d:∀x∈l,lq):l.length<=out.length:=by
 let:=Ve out.length (l.map (ixS out)) (by
  show ji1
  show FH (λ{a b} j i ne e=>ne (by rw[<-We (d a j),e,We (d b i)])) h) λc g=>by
  show(Ż x f g,Wg (d x f))
 show lm
def Qqw(A:é)(a:lq):ixS out x∈xvf↔wd∈ř x:=by
 rw[mem_shL,We a];show#[λh=>h.2,jw h #[Wg a,h]]
def Qjm(_:é){s t:Spt}(a:B8)(h:gz):(ixS out s,vM)∈Ρ:=by
 refine DI.mpr #[_,Ep.mpr p4,?_];unfold Ed;rw[We a];show zac t h
def QkX(A:é)(a:lq)(r:za8 x)(n:wd∉ř x)(hz:z∈nx p x):z∈out/\za8 z:=by
 show BA m c b r #[A.cl _ a _ hz,m,c,b.step (λz=>n ((Qqw A a).mp z)) (Qjm A a hz)]
def Dn.skip(d:qwg)(a:o≠s)(h:jLh):Dn M wd s met w z:=by
 show Ϩ d
 ·show Λ d
  ·show ß d
  ·rw[ĳ d];show ÿ (ę a h)
 ·show ô d
def Dn.add(d:qwg)(a:o≠s):Dn M wd s tD (w++L) z:=by
 rcases d with d|⟨d,e⟩
 ·show Λ d
  ·show ß (Tt d)
  ·show ÿ #[by show Bp d a,jsa]
 ·show ÿ #[d,e.imp (NR _) id]
def Si.skip(I:qse)(b:o≠s)(h:jLh):Si p out M wd s met w:=
 #[λx d=>I.wm x (Tt d),I.mm,I.nd,λz a=>(I.c0 z a).skip b h,λy c z a=>(I.cl y c z a).skip b h]
def Si.add(A:é)(I:qse)(h:o≠s)(h1:zW6)(h2:zs0):Si p out M wd s tD zWe:=by
 show quf g f;refine#[Ÿ c,Ÿ c,?_,λz d=>(I.c0 z d).add h,ś y e z d]
 ·show Λ c
  ·show I.wm x (Tt c)
  ·show QkX A g f h2 c
 ·show Λ c
  ·show I.mm x c
  ·show Bp c #[g,f,h2]
 ·rw[Eh];show#[I.nd,Ç,jCj j i h1]
 ·show Λ e
  ·show(I.cl y e z d).add h
  ·rw[ĳ e]at d;show jsa
def Qg5(A:é)(b:B8):Si p out M wd s [] zh0:=
 #[Ľ x a #[A.cl _ b _ a,_,Qjm A b a,.here],zHd,EF,λ_ h=>ß h,zHd]
def UN(A:é)(h:(q,m)∈Ρ):Az/\zW8/\HL m∈nx p Κ:=by
 let#[a,d]:=Gv A ĕ _ h;show HB a d;let#[x,_,c]:=DI.mp h;unfold Ed at c;let#[t,b,e]:=Bh c;cases e;rw[We (A.cl _ (Vs a) _ b)];show b
def Si.none(A:é)(a:B8)(I:Si p out M wd s met []):¬k7:=by
 rintro⟨m,g,f⟩
 let key:∀q,qI1 q->HL q≠s/\(HL q∈met\/wd∈ř Κ):=by
  intro q h
  induction h with
  |here=>
   let#[_,_,h]:=UN A g;rw[We a]at h
   rcases I.c0 _ h with z|z
   ·cases z
   ·show z
  |@step n i _ d e c=>
   let#[b,j,h]:=UN A e;let:HL n∈met:=c.2.resolve_right (ϴ d jD2)
   rcases I.cl _ this _ h with z|z
   ·cases z
   ·show z
 show(key _ f).1 (We a)
#print"-"
section
variable{bs ws:Á}{wq w2 m2 met w:Æ}{o:Spt}{p:È}{out:Æ}{M:â}{wd:Str}{s:Spt}{R:MH}
noncomputable abbrev gwL(p:È)(M:â)(wd:Str)(x5 x6 x7 x8:Û):MSt:=[ď,sO AE,sO Ι,sO j4,sO zv9,x5,x6,x7,x8]
abbrev gH(R:MH)(wq met:Æ):MH:=R++[À xoc,Ŏ k4]
def gH0:(gH R wq met)[R.length]?=sO (Ë xoc):=tp
def gH1:(gH R wq met)[R.length+1]?=Mc:=tp
def Quo:(gH R wq met).set R.length (Ë (w2.map Qf))=gH R w2 met:=tp
def QwP:(gH R wq met).set (qN R) (Ř (VV m2))=gH R wq m2:=tp
def QtC:GS zof [] zHc=sO (Qf o,Sx):=by
 let b:((w++[o]).map Qf).dropLast=w.map Qf:=Ç
 let a:((w++[o]).map Qf)[((w++[o]).map Qf).length-1]?=sO (Qf o):=by rw[NU];simp
 unfold GS;simp only[gH0,a,N0,b,Quo]
def Qr0(a:w.length+(nx p o).length<=sizeLine):Vr zof [À ((nx p o).map Qf)] S8=sO (.non,gH R zWe met):=by
 unfold Vr;simp only[gH0];refine zm7 (xC6 a);rw[<-NU,Quo]
def Qh5{t:MT}{body:SM}{σ:MSt}{h h2:MH}{v:W}(e:zo3)(a:zfj=AG h2):zId=AG h2:=by
 rw[Qo,e,Nj,a];rfl
def QjD:wd∈ř s↔zb3/\vr∈sx:=by rw[in_gn,Qmx]
def QcR(A:é)(D:o∈out)(F:w.length+2<=sizeLine)(E:qR8){x8:Û} :
  Z6 zx0 zHc =
   if o=s then sO (.rt qQ S8)else if zp3 then sO (ì Me (gH R zWe tD))else sO jC6:=by
 let ty:∀w,tyW S8 "list" zof=true:=λw=>by simp only[tyW,gH0];rfl
 let B:QF 8 (v5 Ŕ) zx0 zHc=sO jC6:=
  QK (mt9 rfl (ty _) rfl QtC)
 refine Zj B ?_
 let t:Qg jPd Me S8=sO (cI o s,Sx):=by
  let:=K3 (f:=wEq) (a:=Qb 8) (b:=Qb 5) (σ:=gwL p M wd yq zBh zBi zD7) (h:=Sx) rfl rfl Qsm;show ql
 show Ě c o s
 ·rw[Ò c];rw[ϗ c]at t;show Qq4 (Qgc t rfl)
 rw[Õ c];rw[ϔ c]at t;refine Zj zn4 ?_;let l:=Kt (s:=o) (h:=Sx) gH1;let m:wIn true (ġ [.int o.part,.int o.k]) zv9 S8=sO (ñ (uE (xv0∈sx)),Sx):=Qop (g:=true) (q:=xv0)
 let r:Z2 jr6 jRc Me S8=sO (decide (zW6/\zs0),Sx):=by
  let#[j,e,ok,i]:=o;let x:wd∈ř xjf↔i=false/\jIf:=QjD;generalize Sx=H at l m ⊢;simp only[Qf]at l m
  by_cases n:(xjf:Spt)∈met
  ·rw[ϗ n]at l;rw[decide_eq_false λz=>z.1 n];simp[l,Qf]
  ·rw[ϔ n]at l;cases i with
   |true=>
    rw[decide_eq_true #[n,λz=>absurd (x.mp z).1 nofun]];simp[l,Qf]
   |false=>
    by_cases u:jIf
    ·rw[ϗ u]at m;rw[decide_eq_false λz=>z.2 (x.mpr (ϊ u))];simp[l,Qf,Wz,HT.sIx,m]
    ·rw[ϔ u]at m;rw[decide_eq_true #[n,λz=>u (x.mp z).2]];simp[l,Qf,Wz,HT.sIx,m]
 by_cases d:zp3
 ·rw[Ò d];rw[ϗ d]at r;let y:=A.nx2 o D
  let C:V3 š Ũ Bu Me S8=sO (ì Me (gH R w tD)):=by
   let:=UR (h:=Sx) gH1 d.1 E;rw[QwP]at this;simp[this]
  refine Qgc r (Zj C (G3 (v:=.non) (mt9 (o:=H9 R) (h1:=qCf) rfl (by simp only[tyW,gH0];rfl) (J5 (VI (as:=[Qw p,QN p,Qf o]) (h1:=qCf) rfl rfl (y.2.2 _))) (Qr0 (Nh (Es y.1 _) F)))))
 ·rw[Õ d];rw[ϔ d]at r;show V0 r rfl
def gw1{w f m x:Nat}(h:xf8)(l:x<=2):w+x+600<f+3*(m+1):=Ð
def gw2{w f m:Nat}(h:xf8):w+600<f+3*m:=Ð
def gw3{w m x:Nat}(h:w+1<=2*m+2)(l:x<=2):w+x<=2*(m+1)+2:=Ð
def Qav(A:é)(J:B8)(q:Œ):∀(f:Nat) (met wq:Æ) (x8:Û),Si p out M wd s met wq->wq.length+600<f+3*met.length->met.length<=200->wq.length<=2*met.length+2 ->
  (k7/\∃h,jY9=sO (.rt qQ h)) \/
  ¬k7/\∃C e,jY9=sO (ì (gE C) (gH R [] e)):=by
 intro f
 induction f with
 |zero=>show λmet wq _ _ h l _=>absurd (Ng h xm9) (lU (Nh (DX 3 l) uj))
 | succ f u=>
  intro met wq x8 I n m i
  let b:∀wq:Æ,Qg (yp (ş Mq)) zx0 qCe=sO (decide (0<wq.length),xCb):=λwq=>by
   let B:=gH0 (R:=R) (wq:=wq) (met:=met);generalize xCb=H at B ⊢;simp[B]
  rcases LG wq with rfl|⟨w,o,rfl⟩
  ·show ÿ #[I.none A J,x8,met,ZP (b [])]
  rw[Ig]at *;show quf v E;let t:=b xNa;rw[decide_eq_true Å]at t;rw[NH,Em]at n i;let D:w.length<=402:=Nh (Ybw i) (NX (DX 2 m) 2);let a:=QcR (M:=M) (wd:=wd) (s:=s) (R:=R) (w:=w) (met:=met) (x8:=x8) A v (ja (NX D 2)) (ź m)
  show Ě c o s
  ·rw[Ò c]at a;subst c;show đ #[E,_,Qh5 t a]
  rw[Õ c]at a
  by_cases d:zp3
  ·rw[Ò d]at a;let g:=I.add A c d.1 d.2;let j:(met++[o]).length<=200:=Nh (QeH g.nd λx F=>(g.mm x F).1) q;let r:=(A.nx2 o v).1;rw[ZI t a];refine u _ _ _ g ?_ j ?_<;>rw[NH,NH,Em]
   ·show gw1 n r
   ·show gw3 i r
  ·rw[Õ d]at a
   let g:=I.skip c (by
    by_cases z:xuh
    show pK
    ·show ÿ (Fq λy=>d (ę z y)))
   rw[ZI t a];show u _ _ _ g (gw2 n) m (Ybw i)
#print"-"
section
variable{N:Nat}{bs ws:Á}{p:È}{out:Æ}{M:â}{wd:Str}
abbrev GrB(p:È)(out:Æ)(M:â)(wd:Str):Prop:=∃s∈out,Pc/\yh/\k7
def QjM(A:é):¬eE↔∀e∈Ρ,cz nw:=by
 constructor
 ·intro h e d b hS f;let#[a,l,_]:=zMc d;refine h #[uv,Vs a,b,λz=>hS (tm (ę a z)),e.2,?_,?_]
  ·rw[Qcn A a];show d
  ·rw[Qcn A a];show f
 ·rintro h ⟨s,c,b,g,m,j,i⟩
  show h _ j (by rw[We c];show b) (λz=>g ((Qqw A c).mp z)) i
def QgE(hg:Ğ)(A:é)(Q:Œ)(hM:μ)(ea:jsb) :
  ∃b:Bool,(Hx↔eE)/\∀h:MH,Z8 jE9 h=sO (.bl b,h):=by
 let lp:=W3 (items:=out.map Qf) (b:=QM 5) (body:=ZA) (λj u _=>(∀s∈out.take j,¬(Pc/\yh/\k7))/\∃F l d c,u=qVc) (λv _=>v=ξ/\eE) ε 0 qCg [] #[Ç,_,_,_,_,rfl] (by
  rintro j w hw u H ⟨hj,F,l,d,c,rfl⟩
  rw[Np]at hw;let#[s,hs,rfl]:=ji6;let o:=Ej hs;refine#[zDb,rfl,?_];let em:∀h,zAe:=λh=>UL hg (A.rc s o).v
  let I:Qg (ă jSj æ) (qR l d) H=sO (decide jQg,H):=by
   let e:wEq (V1 xt) j4 H=sO (ñ (AK jQg),H):=by
    cases BK with
    |none=>rfl
    |some w=>
     show qGa H;rw[KP,Ew.mpr (Ç:(w==wd)=true↔decide (sO w=sO wd)=true)]
   let:=K3 (f:=wEq) (b:=Qb 3) (σ:=zDb) (VI (n:=2) (f:=Qr) (ms:=Qa Ù Pe) (σ:=zDb) (h:=H) (as:=mQ) (h1:=H) rfl rfl (em H)) rfl e;show ql
  let iq:wIn true (ġ [zY9,jh4]) zv9 H=sO (ñ (uE zDj),H):=Qop (g:=true) (q:=vr)
  let tk:∀i∈xc2,i∈out.take (0+j)\/i=s:=λi h=>by
   rw[NO]at *;rw[E3,hs]at h
   show η h z
   show pK
   ·show ÿ (ĝ z)
  let skip:¬(Pc/\yh)->jC7=BO H->∃B S,ZA (qR l d) H=Ar B S/\(∀i∈xc2,¬(mdS p i=sO wd/\wd∉ř i/\Rq p out M wd i i))/\∃F l d c,B=qVc:=λn e=>by
   refine#[_,H,V0 e rfl,Ó i h,_,_,_,_,rfl]
   show qtj
   ·show λy=>n #[y.1,y.2.1]
  by_cases t:Pc
  ·rw[ϗ t]at I
   let t2:Qg (Qe yQ (jR4 Ģ) Ą) (qR l d) H=sO (!decide zDj,H):=by
    let#[ae,part,k,head]:=s;simp only at iq;simp[Qf,Wz,HT.sIx,iq]
   let hd:zb3:=by
    cases z:s.head with
    |false=>rfl
    |true=>unfold mdS at t;rw[Ò z]at t;cases t
   let C:jC7=sO (jG5,H):=by
    let:(uE zDj)=jG5:=by
     rw[Ew,decide_eq_true_eq,QjD,hd];simp
    rw[this]at t2;unfold Z2;rw[I,Nj];show t2
   by_cases L:yh
   ·rw[ϗ L]at C
    let J:QF 6 jYg (qR l d) H=sO (ì jQh (H++MD)):=
     QK (VI (as:=mF) (h1:=H) rfl rfl (lnR (A.nxR s o)))
    let e2:QF 7 X4 jQh (H++MD)=sO (ì (qR xp5 (sO (ý (qN H)))) (gH H zh0 [])):=by
     refine(QK (v:=.ref (H++[MO.lst zx]).length) (h1:=H++MD++[jW]) rfl).trans ?_;rw[NH,Ey];rfl
    let l2:=(A.nx2 s o).1
    rcases Qav (M:=M) (wd:=wd) (R:=H) A o Q 20000000 [] zh0 c (Qg5 A o) (ź (NX l2 _)) Ō l2 with⟨r,H',Y⟩|⟨r,y8,aa,Y⟩
    ·show ÿ #[ξ,H',qr0,rfl,s,o,t,L,r]
    ·show Bo #[_,_,qr0,Ó i h,_,_,_,_,rfl]
     show qtj
     ·show λy=>r y.2.2
   ·rw[ϔ L]at C;show đ (skip (λz=>L z.2) C)
  ·rw[ϔ t]at I
   show đ (skip (λz=>t z.1) (by unfold Z2;rw[I];rfl)))
 let t:=XX (fin:=Zf) (mi:=Qm å) (cp:=zb0) (b:=iG) (mt:=Qg zs2) (me:=Qb 1) (σ:=[ď,sO AE,sO Ι,sO j4,nO,nO,nO,nO,nO]) (h:=[]) (items:=iF) (src:=nO) (Mu Z [a,b,sO j4]) (gW wd) jv9 rfl Tc Aw (λx hx Z P=>by
  let#[m,hm,rfl]:=Ny.mp hx;show jif P;refine#[[sO zI7,sO vR,sO j4],rfl,Aw,?_,λ_=>by simp[QG]];show xj0) (Sq (Nt (Ni hM Ñ)))
 let J:((M.map QG).filter (gW wd)).map jv9=(pls M wd).map QZ:=by
  unfold pls;rw[Fj,Ec,Ec];rfl
 rw[J]at t
 let ei:Qm qei qCg []=sO (out.map Qf,nO,[]):=by
  unfold Qm;rw[VI (n:=2) (f:=Ji) (ms:=Qa Ù AW) (as:=qye) (h1:=[]) (σ:=gwL p M wd nO nO nO nO) (h:=[]) rfl rfl (ea [])];rfl
 let D:Zm jE9=true:=xj9
 rcases lp with⟨ab,U,X,ng,y5,y6,y7,y8,rfl⟩|⟨v,U,X,rfl,hv⟩
 ·rw[NO,Nq,Ef]at ng;refine#[false,#[nofun,λ#[s,E,S]=>(ng s E S).elim],js0];show Qcm (Zj zk7 (Zj qvi rfl))
 ·refine#[true,#[λ_=>hv,ſ],js0];show Qcm (Zj zk7 (Qq4 qvi))
#print"-"
def QrE{L:Ã}{h:MH}:Wp [À L,.ty "list"] h=Bn:=qOh
def Qse{L:Ã}{h:MH}:Wp [Î L,xCc] h=Bn:=qOh
def Qib(L:Æ)(h:MH):VS [À A6] h=Bn:=by
 let#[c,i,e,rfl,_]:=Q9 (items:=L.map Qf) (b:=QM 1) (body:=J8) (λ_ a h=>h=[]/\∃x,a=[Aj A6,x]) A6 0 [Aj A6,nO] [] #[rfl,_,rfl] (by
  rintro j w hw a h ⟨rfl,x,rfl⟩
  show PV s f;refine#[_,rfl,[Aj A6,sO Μ],[],Ϭ,rfl,_,rfl];let d:∀h,Wp [Î qi2,xCc] h=Bn:=λh=>Qse
  simp[Qf,d,Vq])
 show(TU,Qcm (Zj (VZ (b:=QM 1) (body:=J8) rfl e) rfl))
abbrev Wlk(p:È)(R:Æ):Prop:=R[0]?=sO sp0/\∀i s t,R[i]?=sO s->R[i+1]?=sO t->gz
section
variable{p:È}{out:Æ}{run:Æ}
def GG(A:é)(hw:Wlk p run)(D:∀s∈run,B8)(u:run.length<=2000)(h:MH):Zo [Qw p,QN p,À u5] h=Bn:=by
 let v:=hw.1;let r:=à v;generalize d:Qe S7 zqi jV4=e
 let em:∀k:Nat,k<zWf->∀h,e [Ĝ k,zsb,ď,sO AE] h=Bn:=λk hk h=>by
  let c:k+1<run.length:=Nat.add_lt_of_lt_sub hk;let o:=Nl (EU c);let m:=Nl c;let i:=hw.2 k _ _ o m;let q:=(A.nx2 _ (D _ (Dw (EU c)))).2.2;generalize run[k]=s at o i q;generalize run[k+1]=t at m i;let M:atI u5 ğ=sO Μ:=c4 o
  let y:atI u5 xdf=sO HC:=c4 m
  let J:∀h,wIn false HC (Ë zx) h=Bn:=λh=>by rw[Qtq,ϗ i];rfl
  push_cast at y;rw[<-d];simp[M,y,q,J]
 let H:=ZS (fin:=Zf) (mi:=YT jr7) (cp:=qR3) (me:=e) (σ:=joa) (caps:=[zsb,ď,sO AE]) (h:=[]) (items:=QA 0 zR4) zu2 (VC (j:=zWf) (by
  let:((zWf:Nat):Int)=(run.length:Int)-1:=Int.ofNat_sub r;rw[this]
  simp) (zjh (ź u))) û (λw hw=>by
  show Rv;let:=em k (Ep.mp hk) [];rw[II]
  show this) (by rw[Zn];show JC (Nh CO (ja u)))
 let I:∀h,wIn true uD (Ë ((QA 0 zR4).map λ_=>zV3)) h=Bn:=λh=>by
  let:=Qjh (g:=true) (l:=(QA 0 zR4).map i7) (h:=h);rw[Ec]at this;refine this.trans ?_;simp
 let E:∀h,wNe jfa (ġ jG1) h=qo:=λh=>(Qqd (a:=sp0) (b:=sp0)).trans Å
 let N:atI u5 0=sO jfa:=by
  let:=QJ (xs:=zee) (n:=0);rw[Np,v]at this;show this
 let F:=Qib run;let C:=QrE (L:=zee) (h:=[])
 let B:XD (J7 qB1) jRd joa []=kP:=by
  let f:¬run.length=0:=EB r;simp[C,N,E,F,f]
 subst d;show TU;refine Qcm (Zj (Tl B) (QqN (K3 (x:=CA) (h1:=[]) rfl H (I _))))
#print"-"
def Ph.at(h:zWb):L[0]?=sO a/\(∃b,L=b++[n])/\∀i x y,L[i]?=sO x->L[i+1]?=sO y->x∉S/\(x,y)∈E:=by
 induction h with
 |one=>show#[rfl,#[[],rfl],λi x y _ h=>B0 h]
 | @snoc m L n _ o p l=>
  let#[j,#[b,rfl],q]:=l;refine#[zbc (K8 j) j,û,λi x y d c=>?_];let g:i+1<(b++[m]++[n]).length:=K8 c;simp only[NH,Em]at g
  rcases OX (i+1) xei with z|z
  ·rw[NC (EU z)]at d;rw[NC z]at c;show q i x y d c
  ·let f:xei=b.length+1:=Ç
   let e:i=b.length:=Dr (Ld (Lu g)) (by rw[f]at z;show Nat.le_of_succ_le_succ z);subst e;rw[NC Å]at d;rw[<-f]at c;simp at d c;subst d c;show C6 o p
section
variable{N:Nat}{bs ws:Á}{p:È}{out:Æ}{M:â}{wd:Str}
abbrev stp(M:â)(p:È)(a:CH)(s:Spt):CH:=jQf++qsc
def GJ:∀(R:Æ) (a:CH) (s:Spt),Qc2 M p a (R++[s])=Qc2 M p a R++[R.foldl i5 a]:=by
 intro R
 induction R with
 |nil=>
  show jaj
 |cons t R b=>
  intro a s;apply a::Qc2 M p xf9 (R++[s])=a::Qc2 M p xf9 R++_;rw[b];rfl
abbrev cw(wd:Str)(a:CH):Nat:=(a.filter (ju x (x.1=wd))).length
def Qi9{a:CH}{s:Spt}(h:yh):cw wd zT0=jl8+if Pc then 1 else 0:=by
 unfold cw stp;rw[DM,NH,Ybj];congr 1
 ·congr 1;refine xv8
  by_cases c:x.1=wd
  ·rw[ϗ c,c,ϗ h];rfl
  ·rw[ϔ c];rfl
 ·cases c:BK with
  |none=>rfl
  |some w=>
   by_cases d:w=wd
   ·simp[d]
   ·simp[d]
def QlV:∀(R:Æ) (a:CH),(∀s∈R,yh)->jl8<=cw wd (R.foldl i5 a):=by
 intro R
 induction R with
 |nil=>
  intro _ _;show NA _
 |cons s R b=>
  intro a h;refine Nh ?_ (b zT0 (π t c h));rw[xvh];show Sk
def Qif{s:Spt}{R:Æ}{a:CH}(c:Pc)(h:∀t∈s::R,wd∉ř t):jl8<cw wd ((s::R).foldl i5 a):=by
 refine Ng ?_ (QlV R zT0 (π t b h));rw[xvh,Ò c];show N6 _
abbrev jr(A:Æ)(n:Spt)(B:Æ):Nat->Æ
 |0=>A
 |j+1=>xq++n::B
def jr_next{A B:Æ}{n:Spt}{j:Nat}:Mr++gK=rg++[n]:=by
 apply _=(xq++n::B)++[n]
 simp
def QjF{A B:Æ}{n:Spt}:∀j,(jr A n B j).length=A.length+j*(qN B):=by
 intro j
 induction j with
 |zero=>
  simp[jr]
 |succ j a=>
  rw[jr,NH,a,NP,O5,EG]
def Qm4{A B:Æ}{n:Spt}(h1:zNf)(h2:∀i s t,jXc B):Wlk p (A++n::B):=by
 let e:A++n::B=ci++B:=Ç
 refine#[?_,jc8 a]
 ·rw[e,NC (K8 h1.1)];show h1.1
 ·rcases OX i A.length with z|z
  ·rw[e,NC (by simp;show E4 z)]at b;rw[e,NC (by simp;show z)]at a;show h1.2 i s t b a
  ·let#[k,rfl]:=Nat.exists_eq_add_of_le z;rw[Et Ů,DT]at b;rw[EG,Et Ů,DT]at a;show h2 k s t b a
def QqB{A B:Æ}{n:Spt}(h1:zNf)(h2:jK4):∀j,Wlk p (xq++[n]):=by
 intro j
 induction j with
 |zero=>
  show h1
 |succ j a=>
  rw[<-jr_next,Ey];show Qm4 (a) h2
#print"-"
section
variable{N:Nat}{bs ws:Á}{p:È}{out:Æ}{M:â}{wd:Str}{A B:Æ}{n:Spt}
noncomputable abbrev rr(p:È)(M:â)(wd:Str)(a b:Æ)(x6 x7 x8 x9 x10:Û):MSt:=[ď,sO AE,sO Ι,sO j4,sO (Ë zYd),sO (Ë (b.map Qf)),x6,x7,x8,x9,x10]
abbrev cJ(M:â)(p:È)(wd:Str)(A:Æ)(n:Spt)(B:Æ)(j:Nat):Nat:=cw wd ((jr A n B j).foldl i5 [])
def QgH{p:È}{M:â}:∀(run:Æ) (b:CH),∀r∈Qc2 M p b run,r.length<=b.length+run.length:=by
 intro run
 induction run with
 |nil=>
  intro _ r a;cases a
 | cons s run d=>
  intro b r a;unfold Qc2 at a
  show Ŧ a
  ·show Sk
  ·let c:=d _ r a;let f:((mdS p s).toList.map λw=>(w,s)).length<=1:=by cases BK<;>simp
   let e:=E2 (λx:Str×Spt=>decide (x.1∉ř s)) b;rw[NH]at c;rw[NP,D6 _ 1,<-EG];show Nh c (NX (Nat.add_le_add e f) _)
def Qf5(f:Ğ)(j:μ){L:Æ}{s:Spt}(e:∀t∈L++[s],Ϡ t)(b:(L++[s]).length<=2000):∃(R:ú) (is:Ì) (F:Ã) (d:W),(is.map jZ6)=L.foldl i5 []/\xfa/\∀h:MH,Z0 [Qw p,À ŏ,À ((L++[s]).map Qf)] h=sO (À (F++[Î [.lst mY,d]]),h):=by
 let#[R,F,hF,_,l]:=Qkw f (M:=M) (run:=L++[s]) j e (ja b);rw[GJ]at hF
 rcases LG F with rfl|⟨m,c,rfl⟩
 ·let:=congrArg List.length hF;show Ϯ
 rw[Ig,NU,List.map_singleton]at hF;let g:=(YbI hF rfl).2;let a:=List.singleton_inj.mp g;refine#[R,c.1,m.map ja9,À qI6,a,?_,Ū]
 ·let:=QgH (p:=p) (M:=M) (L++[s]) [] (L.foldl i5 []) (by rw[GJ];show qzf);rw[<-a,Nq,FP,NO]at this;show Nh this b
 ·rw[l,Ig,NU];rfl
abbrev gR(wd:Str)(w:W):Bool:=match w with|À (Ü a::_)=>decide (a=wd)|_=>false
def Qix{R:ú}{is:Ì}{σ:MSt}{h:MH}(d:Qb 10 σ h=sO (À mY,h))(l:Qcj BN σ=[nO,sO j4])(j:xfa) :
  QC Zf qxb BN ű qa0 Ù σ h=sO (À qlg,h):=by
 let m:=XX (fin:=Zf) (mi:=Qm cS) (cp:=BN) (b:=QM 0) (mt:=Qg (zn Ö)) (me:=Qb 0) (σ:=σ) (h:=h) (items:=is.map RN) (src:=nO) (zi f [a,sO j4]) jaa id (xod d) Tc #[_,l] (λw hw f #[a,c]=>by
  subst c;show yJ i r;refine#[[sO jfg,sO j4],rfl,û,?_,ſ];let e:∀h,wEq (.str zed) j4 h=sO (ñ (zed==wd),h):=λh=>KP ..;simp[Wv,gR,e]
  rw[Ew];simp) (zsd (ja j))
 rw[m,Oj];rfl
def QqD{R:ú}:∀is:Ì,((is.map RN).filter jaa).length=xvg:=by
 intro is
 induction is with
 |nil=>
  show rfl
 |cons i is b=>
  let a:=b;unfold cw at a ⊢;let e:gR wd jfg=decide (qI7=wd):=rfl;rw[Nw,Nw,E7,E7,e]
  by_cases c:qI7=wd
  ·rw[ϗ c,Ĥ,Ĥ,NP,NP,a]
  ·rw[ϔ c,zIg,zIg,a]
def QrB{s:Spt}{L:Æ}{σ:MSt}{h:MH}(e:Qb 5 σ h=sO (À ((s::L).map Qf),h)):mSl Ģ zL KF σ h=M4:=by
 simp[e,Wz,HT.sIx];show Lq Å
def QmE(w:Ğ)(y:μ){j:Nat}(s:∀t∈Mr,Ϡ t)(b:(rg++[n]).length<=2000)(u:j<=100){a:Æ}{x6 x9 x10:Û} :
  ∃c,QP (rr p M wd a jK x6 jyf BL x9 x10) HQ=sO (ì (rr p M wd a jK x6 (sO (Ë ((rg++[n]).map Qf))) BL x9 c) jo3):=by
 let d:jB9:=by
  rw[NH,QjF]at b ⊢;refine Nh ?_ b;rw[O5,<-EG];show NX Ů _
 let#[R,is,F,I,C,z,e]:=Qf5 w (M:=M) y s d;let x:xvg=kG j:=SC C
 let r:rg++[n]=Mr++gK:=jr_next.symm;rw[r]at b ⊢;generalize Mr=J at e b ⊢
 let m:QF 10 jz3 (rr p M wd a jK x6 rJ BL x9 x10) HQ=sO (ì zpb HQ):=by
  refine QK ?_;generalize[MO.lst (zp4 j)]=H;let:=VI (n:=3) (f:=Z0) (ms:=Qa Ù jX4) (σ:=rr p M wd a jK x6 rJ BL x9 x10) (h:=H) (as:=[Qw p,À ŏ,À xMe]) (h1:=H) rfl rfl (e H);generalize Qh 3 Z0 (ķ jX4)=P at this ⊢;simp[this]
 let D:=Qix (wd:=wd) (R:=R) (is:=is) (σ:=rr p M wd a jK x6 rJ BL x9 qY7) (h:=HQ) rfl rfl z
 let q:∀h:MH,ZL [À qlg] h=sO (Â (zX5 j),h):=λh=>by
  rw[<-x,<-QqD];rfl
 let l:QS jv2 zpb HQ=sO (ì zpb jo3):=by
  refine G3 (v:=.non) (mt9 (o:=Ţ) rfl rfl (J5 (fn9 (J5 D) (q _))) ?_);rw[FQ,NU];show(if_pos (by rw[Nq,Fl];show uc u))
 refine#[sO (Ë mY),Zj m (Zj l ?_)];refine(QK (K3 rfl (QrB rfl) (QoX ?_))).trans ?_
 ·rw[Nq,Nq,<-NH];show S0 b
 ·rw[<-NU];rfl
#print"-"
section
variable{N:Nat}{bs ws:Á}{p:È}{out:Æ}{M:â}{wd:Str}{A B:Æ}{n:Spt}
structure Rnd(p:È)(out:Æ)(M:â)(wd:Str)(A:Æ)(n:Spt)(B:Æ):Prop where
 w:zNf
 r:jK4
 ao:∀s∈zkf,B8
 bo:∀s∈B,B8
 la:A.length<=200
 lb:B.length<=200
 m:mdS p n=sO wd
 g:∀s∈n::B,yh
def Rnd.jo(r:va)(j:Nat):∀s∈Mr,B8:=by
 induction j with
 |zero=>show r.ao
 | succ j b=>
  intro s a;rw[<-jr_next]at a
  show P4 a h b s
  ·show Λ h
   ·show r.bo s h
   ·show r.ao s (NS _ h)
def Rnd.jl(r:va){j:Nat}(a:j<=5):jB9:=by
 rw[NH,QjF];show S0 (NX (Nat.add_le_add r.la (Ia a xCd)) 1)
def Rnd.up(r:va)(j:Nat):kG j<kG (j+1):=by
 unfold cJ;rw[jr,Lf];show Qif r.m r.g
def Qp7(q:Ğ)(Al:é)(u:μ)(r:va){a:Æ}{x6 x9 x10:Û} :
  ∃d c,Zt jfh nO jkh QP jfh ju4 [ő]=sO (ì (rr p M wd a jK x6 jj5 BL d c) qi):=by
 let#[m,x,e,d,c,rfl,rfl]:=Q9 (items:=QA 0 5) (b:=QM 9) (body:=QP) (λj g h=>∃d c,g=rr p M wd a jK x6 jyf BL d c/\h=HQ) jfh 0 ju4 [ő] #[x9,x10,rfl,rfl] (by
  rintro j w hw g h ⟨d,c,rfl,rfl⟩
  rw[NO];let l:j<5:=by let:=K8 hw;rwa[Zn]at this
  let#[f,t]:=QmE q u (j:=j) (λs o=>(Al.rc s (r.jo j s o)).v) (r.jl l) (ja (Nt l)) (a:=a) (x6:=x6) (x9:=sO w) (x10:=c)
  show#[_,rfl,_,_,ß t,sO w,f,rfl,rfl])
 show#[d,c,by rw[Zn]at e;show e]
def Qnx(q:μ)(r:va){a:Æ} :
  ∃c,Zt yF nO lz Q5 yF (mL a) []=sO (.nx (mO c) []):=by
 let#[i,v,e,c,rfl,rfl]:=Q9 (items:=qCh) (b:=QM 6) (body:=Q5) (λ_ d h=>∃c,d=mP c/\h=[]) yF 0 (mL a) [] #[_,rfl,rfl] (by
  rintro j w hw d h ⟨c,rfl,rfl⟩
  show PV s m
  let o:yh:=by
   let:=Ej m
   rcases NJ.mp this with rfl|h
   ·show r.g _ NF
   ·show Λ h
    ·show r.g s (jz h)
    ·rw[ĳ h];show r.g _ NF
  refine#[_,rfl,_,[],Ϭ,sO Μ,rfl,rfl]
  let l:Qg jI5 (mO yq) []=kP:=by
   let:=K3 (f:=wIn false) (a:=Qb 3) (σ:=mP yq) (h:=[]) (h1:=[]) rfl (VI (n:=2) (f:=ZK) (ms:=Qa å Mq) (as:=[À ŏ,Qf s]) (h1:=[]) rfl rfl (Qa5 q)) inL;unfold Qg;rw[this,ϔ o];rfl
  show V0 l rfl)
 show C6 c e
def Qkv(e:Ğ)(Al:é)(r:va){a:Æ}{x6:Û} :
  Qg jv4 (mO x6) []=kP:=by
 let c:∀s∈n::B,B8:=λs b=>by
  show Ŧ b
  ·show r.ao _ mV
  ·show r.bo s b
 let q:mSl Ģ KF jUf (mO x6) []=sO (À ((n::B).map Qf),[]):=by
  let:Wz yF nO zf1=xoe:=by
   rw[qj6,NU];unfold Wz HT.sIx;simp;rw[show(-1+(xc3+1)).toNat=B.length+1 from(congrArg Int.toNat (Int.add_comm _ _)).trans (Int.toNat_sub (B.length+1+1) 1)];simp
  apply sO (W.lst (Wz yF nO zf1),_)=_;rw[this]
 let i:=ZS (fin:=Zf) (mi:=Qm (zyb Ģ)) (cp:=xb3) (me:=Qh 2 Qr pX) (σ:=mP x6) (caps:=[ď]) (h:=[]) (items:=xoe) (λw=>((Qh 2 Qr pX [sO w,ď] []).map (·.1)).getD .non) (xod q) û (λw hw=>by
  show yJ s b;rw[jsi]
  rfl) (by rw[Nq,NP];show JC (ja xCd))
 let t:((n::B).map Qf).map (λw=>((Qh 2 Qr pX [sO w,ď] []).map (·.1)).getD .non)=(n::B).map λs=>V1 xt:=by
  rw[Ec];refine EJ (Ó s b);apply((Qh 2 Qr pX jH3 []).map (·.1)).getD .non=_;rw[jsi];rfl
 rw[t]at i
 let o:Ka n9=true:=Xw λw hw=>by
  show A5 s;cases BK<;>rfl
 let hd:Wj n9<=40:=Xt λw hw=>by
  show A5 s;cases BK<;>simp[V1,dep]
 let hw:inW j4 n9=true:=by
  unfold inW;rw[Nw,De,r.m,V1,Yn _ rfl];rfl
 let ei:wIn true j4 (Ë n9) []=sO (CA,[]):=by
  rw[qwf o,hw];rfl
 let:=K3 (f:=wIn true) (a:=Qb 3) (σ:=mP x6) (h:=[]) (h1:=[]) rfl i ei;show ql
def Y7(t:Ğ)(Al:é)(u:μ)(r:va)(h:MH) :
  Zi [Qw p,QN p,À ŏ,sP,À fB,À yF] h=Bn:=by
 let Z:=GG Al r.w r.ao (r.jl (j:=0) Ñ);let Y:=GG Al (QqB r.w r.r 5) (r.jo 5) (r.jl ĕ);let#[q,P]:=Qnx u r (a:=zkf);let J:=Qkv t Al r (a:=zkf) (x6:=q);let#[s,e,L]:=Qp7 t Al u r (a:=zkf) (x6:=q) (x9:=nO) (x10:=nO)
 let I:XD (J7 qB2) jRf (mL ci) []=kP:=by
  let c:=VI (n:=3) (f:=Zo) (ms:=Qa Ù jsc) (as:=[Qw p,QN p,À fB]) (h1:=[]) (σ:=rr p M wd ci jK nO nO nO nO nO) (h:=[]) rfl rfl (Z []);generalize Qh 3 Zo (qr jsc)=cr at c ⊢;let Q:¬(xc3+1<2):=YbM.mpr (LN.mpr (EC 2 B.length));simp[c,Vq,Q]
 let H:XD (Qg qb9) (Qg qbb) (mL ci) []=kP:=by
  let o:atI fB (-1)=sO zhj:=by rw[NU];show Mi.WV _ _
  let d:atI yF (-1)=sO zhj:=by rw[qj6,NU];show Mi.WV _ _
  let z:atI yF 0=sO zhj:=qM6;let ne:∀h,zR5 zhj=qo:=λh=>by rw[Qqd,qS2];rfl
  unfold rr;generalize(A++[n]).map Qf=XA at o ⊢;generalize qCh=XB at d z ⊢;simp[o,d,z,ne]
 let S:=ZS (fin:=Zf) (mi:=YT (É PR)) (cp:=xb4) (me:=Qe wLt w4 zqi) (σ:=rr p M wd ci jK q jj5 BL s e) (caps:=[sO ç]) (h:=qi) (items:=QA 0 4) zu2 (VC (j:=4) rfl Ñ) û (λw hw=>by
  show Rv;let m:=Ep.mp hk
  let o:atI qc2 ğ=sO (Ĕ (zX5 k)):=by
   rw[QJ,Np,EZ (E4 m)];rfl
  let d:atI qc2 xdf=sO (Ĕ (zX5 (k+1))):=by
   rw[QJ,Np,EZ (YbL m)];rfl
  let lt:(kG k:Int)<kG (k+1):=Int.ofNat_lt.mpr (r.up k);rw[II];generalize(List.range 5).map (λi=>W.int zxa)=X at o d ⊢;push_cast at d
  simp[o,d,lt]) (by rw[Zn];show JC Ñ)
 let U:wIn false uD (Ë ((QA 0 4).map λ_=>zV3)) qi=sO (CA,qi):=Qjh (g:=false) (l:=[true,true,true,true])
 let F:Qg jv5 (rr p M wd ci jK q jj5 BL s e) qi=sO (false,qi):=by
  let:=K3 (f:=wIn false) (a:=mC uD) rfl S U;show ql
 refine zR2 qi qV1;refine Qcm (Zj (Tl I) (Zj (Tl H) (Zj (VZ (b:=QM 6) (body:=Q5) rfl P) (Zj (Tl J) ?_))));refine Zj (QK (v:=À fB) (h1:=[]) rfl) (Zj (QK (v:=Ţ) (h1:=[ő]) rfl) (Zj (VZ (b:=QM 9) (body:=QP) (VC (j:=5) rfl Ñ) L) (Zj (Tl F) (QqN (VI (as:=[Qw p,QN p,À xK0]) rfl rfl (Y _))))))
#print"-"
def QrZ(h0:2<=m)(h1:m<=8):Builtin.Range.small 0 m 2=true/\∃n:Nat,(Builtin.Range.rangeSize 0 m 2).toNat=n/\n<=4:=by
 let key:∀n:Fin 9,Builtin.Range.small 0 xAf 2=true/\(Builtin.Range.rangeSize 0 xAf 2).toNat<=4:=õ
 let#[n,rfl]:=FJ (LO Ñ h0);let h:=key #[n,F4 (LN.mp h1)];show#[h.1,_,rfl,h.2]
def Qh8(e:ĺ a=sO (jIg,h'))(h0:2<=m)(h1:m<=8):∃n:Nat,n<=4/\Qgt a σ h=sO (JA 0 2 n,nO,h'):=by
 let#[b,n,c,d]:=QrZ h0 h1;show HB n d;unfold Qgt;rw[e,Nj];refine zm7 #[õ,õ,b];rw[c]
def QmF(d:σ[2]?=sO yL)(c:Ϥ):jU8 σ h=sO (QN p,h):=by
 let i:=c.len;generalize f:Qh 1 Zp (C9 zt9)=b
 let em:∀x∈p,b [zUf] h=jO1:=λx a=>by
  let j:∀h,Zp [Î qX] h=jO1:=λh=>Qd3 x.2 (c.bal x a) (Qh7 c a) (by let:=c.sz x a;show Nt (Ni this Ñ)) h;rw[<-f];simp[j,J2]
 let:=ZS (fin:=Zf) (mi:=Qm å) (cp:=[nO]) (me:=b) (σ:=σ) (h:=h) (caps:=[]) (items:=lx) (λw=>((b [sO w] h).map (·.1)).getD .non) (by unfold Qm Qb;rw[d];rfl) #[nO,rfl] (λw hw=>by show yJ x a;rw[em x a];rfl) (zsd (zh i));rw[Ec,EJ (g:=λx=>Qc4 tM) λx a=>by apply Option.getD _ _=_;rw[em x a];rfl]at this;show this
section
variable{p:È}{out:Æ}{M:â}{wd:Str}
def Ph.rch(h:zWb):l5 n:=by
 induction h with
 |one=>show .here
 |snoc _ d c b=>show b.step d c
def Ph.lt(h:zWb)(f:∀e∈E,e.1<v)(c:n<v):∀x∈L,x<v:=by
 induction h with
 |one=>show λx b=>by show Bp b c
 |snoc _ _ g d=>
  intro x b
  show Λ b
  ·show d (f _ g) x b
  ·show Bp b c
def Qns(A:é)(h0:CF){e:ϩ}{La Lb:Ì}(o:e∈Ρ)(C:wK)(hS:e.1∉xvf)(j:Ph zT [] 0 e.1 La)(n:xj5)(h:Ph zT nw e.2 e.1 Lb)(l:xj6) :
  ∃X Y,La.map SI=X++[uv]/\(e.1::Lb).map SI=uv::(Y++[uv])/\Rnd p out M wd X zt Y:=by
 let#[f,L,_]:=zMc o;let u:∀x∈Ρ,x.1<out.length:=λx a=>(UN A (q:=x.1) (m:=x.2) a).1;let#[J,#[L1,rfl],I]:=j.at;let#[H,#[L2,rfl],w]:=h.at;let B:=j.lt u f;let ob:=h.lt u f;rw[NH]at n l;refine#[L1.map SI,L2.map SI,xog,xc4,?_];let v:L1.map SI++[uv]=(L1++[e.1]).map SI:=xog
 let F:uv::(L2.map SI++[uv])=(e.1::(L2++[e.1])).map SI:=xc4
 refine#[?_,jc8 d,Ó s b,Ó s b,?_,?_,C,Ó s b]
 ·rw[v];refine#[?_,jc8 d]
  ·show ĉ r e h0;rw[Np,J];apply sO (sq out 0)=_;rw[e];rfl
  ·rw[Np]at b d;show(jLi,(UN A (I i x y a c).2).2.2)
 ·rw[F,Np]at b d;show jLi;rw[DU]at c;cases i with
  |zero=>
   cases a;show(ð H c,(UN A (q:=e.1) (m:=e.2) o).2.2)
  |succ i=>
   rw[DU]at a;show(UN A (w i x y a c).2).2.2
 ·rw[v]at b;show(zvi,Vs (B x a))
 ·show(zvi,Vs (ob x MP))
 show xof n
 show xof l
 ·show Ŧ b
  ·show λz=>hS (tm (ę f z))
  ·show zvi;let#[i,g,rfl]:=Dz.mp a;let E:(L2++[e.1])[i]?=sO L2[i]:=by rw[NC g,Nl g]
   let D:i+1<(L2++[e.1]).length:=by rw[NH];show YbL g
   let:=(w i _ _ E (Nl D)).1;show λz=>this (tm #[ob _ MP,z])
open Classical in
abbrev gwW(p:È)(out:Æ)(M:â)(w:W):Bool:=match w with|Ü a=>decide zQ1|_=>false
open Classical in
abbrev gwd(p:È)(out:Æ)(M:â):Á:=(Wds p).filter (ju a zQ1)
def QkN{P:Str->Bool}{L:Á}{j:Nat}{x:Str}(a:L[j]?=sO x)(d:∀y∈L.take j,P y=false)(c:P x=true):∃r,L.filter P=x::r:=by
 let f:=K8 a
 let e:L=L.take j++x::L.drop (j+1):=by
  let:=Nd.mp a;rw[<-this.2,<-Ek,LC]
 rw[e,DM,DG.mpr λy b=>by rw[d y b];nofun,E7,Ò c];show û
abbrev MoG(p:È)(out:Æ)(M:â)(v:W):Prop:=(zZf=[]/\∃a b c,v=Î [xN,a,b,c])\/∃wd r X n Y,zZf=wd::r/\Rnd p out M wd X n Y/\v=Î [qf1,sP,À ((X++[n]).map Qf),À ((n::(Y++[n])).map Qf)]
open Classical in
def QvA(A:é)(h0:CF)(h:zU9):xoh:=by
 let#[j,wd,s,t,e,La,Lb,#[c,f,hS],#[i,n],#[d,l],rfl]:=h;let#[X,Y,B,x,r]:=Qns A h0 c f hS i n d l;let#[b,_,_]:=zMc c;let u:eE:=#[uv,Vs b,f,λz=>hS jD2,e.2,by rw[Qcn A b];show c,by rw[Qcn A b];show d.rch]
 let#[g,w]:=QkN (P:=ju a zQ1) s (λy o=>decide_eq_false λz=>((QjM A).mpr (t y o)) z) (decide_eq_true u);show AT #[wd,g,X,_,Y,w,r,?_];rw[<-B,<-x,Ec,Ec];rfl
open Classical in
def Qwj(A:é)(h:AB):zZf=[]:=by
 unfold gwd
 show DG.mpr λy _=>by
  rw[decide_eq_false ((QjM A).mpr λe a=>h y e a)];nofun
def Qwu{h:MH}:zR5 Ι=qo:=by
 let a:pln Ι=true:=by
  apply Ka _=true
  show Xw λw hw=>by
   show A5 m;simp[QG,pln,Ka]
 let hd:dep Ι<=40:=by
  let:Wj ŏ<=30:=Xt λw hw=>by
   show A5 m;simp[QG,QZ,dep,Wj]
  apply Wj _+1<=40;show S0 xC2
 rw[Qq1 a a hd hd,Yn _ a];rfl
#print"-"
noncomputable abbrev lW(ns:ψ)(k:Nat)(x2 x3 x4 x5 x6 x7 x8:Û):MSt:=[sO PY,Ĝ k,x2,x3,x4,x5,x6,x7,x8]
section
variable{C:Addr}{ns:ψ}{p:È}{out:Æ}{M:â}{bs ws:Á}
open Classical in
def QgT(q:u9)(A:é)(i:Œ)(s:μ)(hw:ua)(v:jsb){k:Nat}{x5 x6 x8:Û}{h:MH} :
  QC Zf tF zM1 ű qB3 Ù (lW ns k yL cN Sc x5 x6 di x8) h=sO (À zGe,h):=by
 let t:=XX (fin:=Zf) (mi:=Qm š) (cp:=zM1) (b:=QM 0) (mt:=JP xH1) (me:=Qb 0) (σ:=lW ns k yL cN Sc x5 x6 di x8) (h:=h) (items:=zQ0) (src:=nO) (zi j [a,ď,sO AE,sO Ι]) (gwW p out M) id rfl Tc û (λw hw j #[a,g]=>by
  subst g;show yJ d o;let#[b,r,u]:=QgE (wd:=d) q A i s v;let e:b=decide (GrB p out M d):=by rw[Ew,r,decide_eq_true_eq]
  refine#[jn5,rfl,û,?_,ſ];let c:=VI (n:=4) (f:=Z8) (ms:=Qa Ö jX5) (as:=[Qw p,QN p,À ŏ,Ü d]) (h1:=h) (σ:=jn5) (h:=h) rfl rfl (u h);unfold JP;rw[c,e]
  rfl) (zsd (Nh hw Ñ))
 rw[t,Oj,Fj];rfl
def QhH{h:MH}{k:Nat}(hk:k<50){x2 x3 x4 x5 x6 x7 x8:Û}:∃y2 y3 y4 y5 y6 y7 y8 h',qe1=sO (ì (lW ns k y2 y3 y4 y5 y6 y7 y8) h'):=by
 let#[f1,J]:=QeC ns k (N2 hk Ñ);let#[bs,ws,p,F,hb,hw,#[f,ht,B],ea]:=QbZ f1 3 3 3 8 Ñ Ñ Ñ Ñ;let#[f2,I]:=QeC ns (k+1) Í;let#[M,f3,E,eM]:=Qef f hw.2 f2;let i:Ϥ:=Qfs f Ñ;let#[out,A,h0,D,n0,Q,z]:=QrK i;let j:=Qob f B ht A.nd A.rc;let#[v,y,ev]:=QmP (C:=C) f hw.2 A h0 D j E
 let x:xoh:=by
  rcases y with y|⟨N,L,rfl,ng⟩
  ·show QvA A h0 y
  ·show đ #[Qwj A ng,_,_,_,rfl]
 let e1:=J h;let q:=ea (h++[Q0 f1]) h.length Qbr;rw[Gz]at q;generalize h++[Q0 F]=H at q;let e3:=I H;push_cast at e3 q;let e4:=eM (H++[Q0 f2]) H.length Qbr;rw[Gz]at e4
 let s2:Qh 2 Vb jA3 (lW ns k x2 x3 x4 x5 x6 x7 x8) h=sO (Qw p,H):=by
  simp[e1,q]
 let s3:jU8 (jIh x3) H=sO (QN p,H):=QmF rfl i
 let S:Qh 2 Vk jAd (jIh cN) H=sO (À ŏ,H++[Q0 f3]):=by
  simp[e3,e4]
 let P:=λh=>Qct i Q z h;generalize H++[Q0 f3]=G at S;let w:ua:=(Gx f hw.2).2.1;let s8:=λx5 x6 x8=>QgT (ns:=ns) (k:=k) (x5:=x5) (x6:=x6) (x8:=x8) (h:=G) f A j E w P
 let step:∀{r:Tb},(Qn jR0
  (Qn jR5
  (Zd jr8 (Qn jS0
  jS1) Qx))) (lW ns k yL cN Sc Sc CY di (sO (Ë zGe))) G=r->qe1=r:=λe=>
  Zj (QK s2) (Zj (QK s3) (Zj (QK S) (Zj (QK (v:=À ŏ) (h1:=G) rfl) (Zj (QK (VI (as:=Tx) (h1:=G) rfl rfl (ev G))) (Zj (QK (VI (as:=sD) (h1:=G) rfl rfl (Qa3 f hw.2 G))) (Zj (QK (s8 _ _ _)) e))))))
 let o:=Qwu (M:=M) (h:=G);refine#[ď,sO AE,sO Ι,sO Ι,sO v,sO (Ë Cg),sO (Ë zGe),G,step ?_]
 rcases x with⟨g,a,b,c,rfl⟩|⟨d,r,Y,n,Z,g,rd,rfl⟩
 ·rw[g];let u:∀h,wEq qqg zB3 h=qo:=qVd
  let t:(XD (J7 zM0) jR2) jsg G=BO G:=by
   show qlh
  let s:Qg zCc jsg G=BO G:=by
   let:=neB (a:=false) (b:=false) (h:=G);simp[u,this]
  show Zj zn4 (Zj (Tl s) (V0 rfl rfl))
 ·rw[g];let rr:=Y7 f A E rd;let u:∀h,wEq zB3 zB3 h=Bn:=qVd
  let nW:∀h,zR5 (Ay d)=qo:=λh=>by rw[qde,Yn _ rfl];rfl
  generalize(Y++[n]).map Qf=m at rr ⊢;generalize(n::(Z++[n])).map Qf=l at rr ⊢
  let t:(XD (J7 zM0) jR2) pN G=BO G:=by
   show qlh
  let t3:Qg jx1 pN G=sO (true,G):=by
   simp
  let s:Qg zCc pN G=BO G:=by
   let:=neB (a:=true) (b:=true) (h:=G);simp[u,this]
  let t4:Qg qba pN G=BO G:=by
   let a0:atI ((d::r).map W.str) 0=Ϸ d:=qM6;generalize(d::r).map W.str=L at a0 ⊢;simp[a0,nW]
  let t5:J7 qB0 pN G=BO G:=by
   simp[rr]
  show Zj zn4 (Zj (Tl s) (Qgc t3 (Zj (Tl t4) (Tl t5))))
#print"-"
section
def main(C:Addr)(ns:ψ)(_:xmc):∃h',YU C [zG8] []=sO (ξ,h'):=by
 obtain⟨m,q⟩:∃m:Int,m=(if ql2>2 then ql2 else 2):=û
 let x:2<=m:=by rw[q];split<;>lia
 let v:m<=8:=by rw[q];split<;>split<;>lia
 let B:(Qa Θ jB6) jxj []=sO (jIg,[]):=by
  rw[q];simp only[QqH,s_c,Qwg,QoP,Qso,Qj6,QnR,QsA,QsR,Nq]
 let#[n,Y,z]:=Qh8 B x v
 let a:=Q9 (items:=JA 0 2 n) (b:=QM 1) (body:=Kw C) (λ_ r _=>∃p o l j g f d c,r=[sO PY,p,o,l,j,g,f,d,c]) (JA 0 2 n) 0 jxj [] #[_,_,_,_,_,_,_,_,rfl] (by
  rintro i w u r h ⟨p,o,l,j,g,f,d,c,rfl⟩
  let#[t,rfl]:=KS u;let#[L,J,I,H,F,E,D,h',e]:=QhH (C:=C) (ns:=ns) (k:=2*i) (x2:=o) (x3:=l) (x4:=j) (x5:=g) (x6:=f) (x7:=d) (x8:=c) (h:=h) Í;let y:jn+jd*2=((2*i:Nat):Int):=Ð
  show ώ y #[_,rfl,_,h',ß e,_,_,_,_,_,_,_,_,rfl])
 let#[s,h',A,p,o,l,j,g,f,d,c,rfl]:=a;show(Hz h',Qcm (Zj (VZ (b:=QM 1) (body:=Kw C) z A) rfl))
#print"-"
#print"-My"
#print "-_Z"
namespace PySem.W.Fast
abbrev tw15552211480999801831:=0
abbrev tw16954385430547062457:=0
abbrev tw15300653498760330008:=0
abbrev tw11733826502376457471:=0
abbrev tw18279048583538723050:=0
abbrev tw7564317186376937211:=0
abbrev tw6602145488060694924:=0
abbrev tw17987264206818538409:=0
abbrev tw1495078203235365350:=0
abbrev tw13811052116836510392:=0
abbrev tw10654066353581326030:=0
abbrev tw17641917837742143310:=0
abbrev tw11000595831859117723:=0
abbrev tw3299999275071492571:=0
abbrev tw2129998462110480567:=0
abbrev tw4155337840061230301:=0
abbrev tw15339752964575974432:=0
abbrev tw7835985993959653170:=0
abbrev tw7823524233649892077:=0
abbrev tw16499191586444953837:=0
abbrev tw638996891256535819:=0
abbrev tw8600782028980970203:=0
abbrev tw2579831280869963138:=0
abbrev tw1039831197788711881:=0
abbrev tw18287491888614308665:=0
abbrev tw4416408040781477448:=0
abbrev tw6628541339159404318:=0
abbrev tw9219830308275719204:=0
abbrev tw3998357962450883399:=0
abbrev tw16704639873842060785:=0
abbrev tw4818953217721585668:=0
abbrev tw1428428653288941016:=0
abbrev tw14412662037792367638:=0
abbrev tw9859894978596916296:=0
abbrev tw1805214249573212775:=0
abbrev tw15088782837062167479:=0
abbrev tw9644124193799289566:=0
abbrev tw5811784075634510566:=0
abbrev tw13594399265844071356:=0
abbrev tw3157014410288836135:=0
abbrev tw12936109456291134191:=0
abbrev tw13458568601629259121:=0
abbrev tw958486621527328670:=0
abbrev tw2499897464333749342:=0
abbrev tw3751122741821696278:=0
abbrev tw10184708442872927851:=0
abbrev tw13919434450216211168:=0
abbrev tw14539976315901140725:=0
abbrev tw8613415069613876400:=0
abbrev tw17461215516091577645:=0
abbrev tw10114468952004296695:=0
abbrev tw17880723236664190007:=0
abbrev tw7765145786401690110:=0
abbrev tw9862823898843085238:=0
abbrev tw3531105458112949765:=0
abbrev tw16000445709834300285:=0
abbrev tw4162505663268949860:=0
abbrev tw10172637609657908517:=0
abbrev tw11579281483617454600:=0
abbrev tw15546540456865777704:=0
abbrev tw1978921618837929021:=0
abbrev tw7341781977523960974:=0
abbrev tw1849657787797269990:=0
abbrev tw15688570847922462063:=0
abbrev tw10147337432214628017:=0
abbrev tw1762089044057663752:=0
abbrev tw10291238972783588948:=0
abbrev tw17795915570070396741:=0
abbrev tw534621060148921310:=0
abbrev tw12331393199416960853:=0
abbrev tw16365010315459251404:=0
abbrev tw7712663187189333066:=0
abbrev tw4953413251589060305:=0
abbrev tw5535936469064962102:=0
abbrev tw12621128874511405069:=0
abbrev tw6560637912563721807:=0
abbrev tw14934515592996115847:=0
abbrev tw16500982460604873549:=0
abbrev tw9270422856908722008:=0
abbrev tw23636900555627443:=0
abbrev tw9778002857328831240:=0
abbrev tw15181168582990281116:=0
abbrev tw10605410446890288485:=0
abbrev tw14184785196604896954:=0
abbrev tw3416229843658070667:=0
abbrev tw6736647482227723985:=0
abbrev tw3406247905497865680:=0
abbrev tw2114431144520513011:=0
abbrev tw11119713121455607719:=0
abbrev tw6582686050798396642:=0
abbrev tw2471180127980833657:=0
abbrev tw10361892988928562862:=0
abbrev tw12443607946227494277:=0
abbrev tw8924153930211266784:=0
abbrev tw10461578761826564075:=0
abbrev tw13910992375318027725:=0
abbrev tw2711815196889780797:=0
abbrev tw1454468038017635769:=0
abbrev tw5313883273975008380:=0
abbrev tw4076361387232464924:=0
abbrev tw11839396533562844142:=0
abbrev tw1799183261668796616:=0
abbrev tw7203353943022088235:=0
abbrev tw8692752869457252103:=0
abbrev tw2470708219025717789:=0
abbrev tw8677915369720857727:=0
abbrev tw1182225258342797895:=0
abbrev tw1167049391486673776:=0
abbrev tw4296440252473068606:=0
abbrev tw5256057668965850376:=0
abbrev tw14157284652784562561:=0
abbrev tw15877414272958554316:=0
abbrev tw947313653331468002:=0
abbrev tw12771094133986343062:=0
abbrev tw14250633775625797969:=0
abbrev tw13106671380987259442:=0
abbrev tw14092044857512365674:=0
abbrev tw12724526501374867122:=0
abbrev tw8186598054539435405:=0
abbrev tw3062555204714174377:=0
abbrev tw17591100656693551456:=0
abbrev tw7505153205865955508:=0
abbrev tw17090697151719945901:=0
abbrev tw3157797208282903658:=0
abbrev tw3904736735938414818:=0
abbrev tw2772892430997225446:=0
abbrev tw15246807964621620560:=0
#print"-PySem.W.Fast"
end
open PySem PySem.W PyProof.Rows _Z
set_option maxRecDepth 100000 in
set_option maxHeartbeats 0 in
theorem PySem.Challenge.cw_doneroom_k53_how_rooms_grow_holds : PySem.Challenge.rw_doneroom_k53_how_rooms_grow.Holds := by
  w_on; o_law; k_head; (case hw => w_witness2)
  k_fill
  refine Mi.Qtw (l := PySem.Challenge.rw_doneroom_k53_how_rooms_grow) (st := (My.top 64)) (sem := My.YU) (k := 107) rfl rfl ⟨rfl, by decide, by decide⟩ rfl (fun w h Y => PySem.W.kIn_of Y) (fun _ _ _ _ _ _ _ _ => .of_eq rfl) ?F My.main
  case F =>
    intro w mg h KX G
    obtain ⟨C_Least, k_Least, n_askers, n_numbers, n_risen_by, d_Least___init__, d_Least_open_key, d_Least_raise_askers⟩ : ∃ C_Least, Mi.ClsAt (L2.KOf KX) mg C_Least "Least" ∧ L2.NoAttr (L2.KOf KX) C_Least "askers" ∧ L2.NoAttr (L2.KOf KX) C_Least "numbers" ∧ L2.NoAttr (L2.KOf KX) C_Least "risen_by" ∧ Mi.MetAt (L2.KOf KX) C_Least "__init__" "Least.__init__" (L2.KH (My.top 40) 0) ["self"] ∧ Mi.MetAt (L2.KOf KX) C_Least "open_key" "Least.open_key" (L2.KH (My.top 40) 1) ["self", "key"] ∧ Mi.MetAt (L2.KOf KX) C_Least "raise_askers" "Least.raise_askers" (L2.KH (My.top 40) 2) ["self", "key"] := by
      unfold L2.NoAttr
      dsimp only [L2.KOf]
      refine' ⟨?C, Mi.QhM KX G ?aC ?pg ?hd ?po ?sa ?mk ?kc, ?n0, ?n1, ?n2, Mi.Ue ?a0 ?i0 ?l0 ?c0 ?k0 ?b0, Mi.Ue ?a1 ?i1 ?l1 ?c1 ?k1 ?b1, Mi.Ue ?a2 ?i2 ?l2 ?c2 ?k2 ?b2⟩
      (case aC => k_is); (case pg => k_is); (case hd => k_is); (case po => k_is); (case sa => k_is); (case mk => k_is); (case kc => k_is)
      (case n0 => k_is)
      (case n1 => k_is)
      (case n2 => k_is)
      (case a0 => k_is); (case i0 => k_is); (case l0 => k_is); (case c0 => k_is); (case k0 => k_is)
      (case b0 => exact fun _ _ _ _ _ _ => Mi.ar1 (by intros; rfl))
      (case a1 => k_is); (case i1 => k_is); (case l1 => k_is); (case c1 => k_is); (case k1 => k_is)
      (case b1 => exact fun _ _ _ _ _ _ => Mi.ar2 (by intros; rfl))
      (case a2 => k_is); (case i2 => k_is); (case l2 => k_is); (case c2 => k_is); (case k2 => k_is)
      (case b2 => exact fun _ _ _ _ _ _ => Mi.ar2 (by intros; rfl))
    refine ⟨?dl, fun base kb nb => ⟨C_Least, My.Qm9 C_Least ?hO ?hA⟩⟩
    case hA =>
      dsimp only [Mi.ats, My.QiQ, Mi.Rc.at, L2.KOf]
      repeat' apply And.intro
      any_goals exact True.intro
      all_goals first | exact k_Least | exact ⟨_, d_Least___init__⟩ | exact k_Least | exact ⟨_, d_Least_open_key⟩ | exact k_Least | exact ⟨_, d_Least_raise_askers⟩ | (refine' Mi.QbA KX G ?za ?zl ?zc ?zk ?zb; (case za => k_is); (case zl => k_is); (case zc => k_is); (case zk => k_is); (case zb => first | exact fun _ _ _ _ _ _ => Mi.ar0 (by intros; rfl) | exact fun _ _ _ _ _ _ => Mi.ar1 (by intros; rfl) | exact fun _ _ _ _ _ _ => Mi.ar2 (by intros; rfl) | exact fun _ _ _ _ _ _ => Mi.ar3 (by intros; rfl) | exact fun _ _ _ _ _ _ => Mi.ar4 (by intros; rfl) | exact fun _ _ _ _ _ _ => Mi.ar6 (by intros; rfl)))
    case hO =>
      dsimp only [Mi.oks, My.QfJ, Mi.Fc.ok, Mi.Fc.okd]
      repeat' apply And.intro
      any_goals exact True.intro
      all_goals first | exact k_Least.cl | assumption | (refine' PySem.W.mg_none_of KX G ?za; (case za => k_is))
    case dl =>
      refine' Mi.QbA KX G ?za ?zl ?zc ?zk ?zb
      (case za => k_is); (case zl => k_is); (case zc => k_is); (case zk => k_is)
      (case zb => exact fun _ _ _ _ _ _ => Mi.ar1 (by intros; rfl))
