package tree

import (
	"caponier/api"
	"caponier/obj"
)

// How many there may be of what api has no limit for.
const (
	maxItems = 32 // secret arrays, and functions
	maxCount = 64 // words of an array, or at which a parameter points, and times of a loop
)

// The words of what has no form.
const (
	secretWord  = "secret"
	funWord     = "fun"
	exportWord  = "export"
	secWord     = "sec"
	pointerWord = "ptr"
)

// stmtForm is what a kind of statement says, in this order: its word, a name, how many times, so many arguments, and lists: its statements (1), or two lists in parentheses (2).
type stmtForm struct {
	word    string
	named   bool
	counted bool
	args    int
	lists   int
}

var stmtForms = [...]stmtForm{
	api.SSet: {word: "set", named: true, args: 1},
	api.SPut: {word: "put", named: true, args: 2},
	api.SIf:  {word: "if", args: 1, lists: 2},
	api.SFor: {word: "for", named: true, counted: true, lists: 1},
	api.SRet: {word: "ret", args: 1},
}

// exprForm is what a kind of expression says, in this order: its word, a name, from least to most arguments. Numbers and variables are no more than a word, and an operation has one of its own.
type exprForm struct {
	word  string
	named bool
	least int
	most  int
}

var exprForms = [...]exprForm{
	api.ENum:  {},
	api.EVar:  {named: true},
	api.EGet:  {word: "get", named: true, least: 1, most: 1},
	api.EOp:   {least: 2, most: 2},
	api.ESel:  {word: "sel", least: 3, most: 3},
	api.ECall: {word: "call", named: true, most: api.MaxParams},
	api.EOpen: {word: "open", least: 1, most: 1},
}

// operation is one that an expression may do, and its word.
type operation struct {
	word string
	op   int
}

var operations = [...]operation{
	{"add", api.Add},
	{"sub", api.Sub},
	{"shl", api.Sll},
	{"slt", api.Slt},
	{"sltu", api.Sltu},
	{"xor", api.Xor},
	{"shr", api.Srl},
	{"sar", api.Sra},
	{"or", api.Or},
	{"and", api.And},
	{"mul", api.Mul},
	{"divu", api.Divu},
	{"remu", api.Remu},
}

// opWord is an operation's word.
func opWord(op uint64) (string, bool) {
	for _, o := range operations {
		if uint64(o.op) == op {
			return o.word, true
		}
	}
	return "", false
}

// mayProg tells whether there may be so many items.
func mayProg(p api.Prog) bool {
	return len(p.Secrets) <= maxItems && len(p.Funcs) <= maxItems
}

// mayArray tells whether there may be such a secret array.
func mayArray(a api.Array) bool {
	return obj.Name(a.Name) && mayCount(true, a.Len)
}

// mayFunc tells whether there may be such a function; its parameters and statements aren't looked at.
func mayFunc(f api.Func) bool {
	return obj.Name(f.Name) && len(f.Params) <= api.MaxParams
}

// mayParam tells whether there may be such a parameter.
func mayParam(x api.Param) bool {
	return within(x.Kind, api.PubWord, api.Pointer) && obj.Name(x.Name) && mayCount(x.Kind == api.Pointer, x.Len)
}

// mayStmt tells whether there may be such a statement; what is in its lists isn't looked at.
func mayStmt(s api.Stmt) bool {
	if !within(s.Kind, 0, len(stmtForms)-1) {
		return false
	}
	f := stmtForms[s.Kind]
	return mayName(f.named, s.Name) && mayCount(f.counted, s.Num) && len(s.Args) == f.args &&
		(f.lists > 0 || len(s.Then) == 0) && (f.lists > 1 || len(s.Else) == 0)
}

// mayExpr tells whether there may be such an expression; its arguments aren't looked at.
func mayExpr(e api.Expr) bool {
	if !within(e.Kind, 0, len(exprForms)-1) {
		return false
	}
	f := exprForms[e.Kind]
	return mayName(f.named, e.Name) && mayNum(e) && within(len(e.Args), f.least, f.most)
}

// mayNum tells whether an expression may have its number.
func mayNum(e api.Expr) bool {
	switch e.Kind {
	case api.ENum:
		return true
	case api.EOp:
		_, ok := opWord(e.Num)
		return ok
	}
	return e.Num == 0
}

// mayName tells whether something may have a name; what isn't named has none.
func mayName(named bool, name string) bool {
	if named {
		return obj.Name(name)
	}
	return name == ""
}

// mayCount tells whether something may have a count; what isn't counted has none.
func mayCount(counted bool, n int) bool {
	if counted {
		return within(n, 1, maxCount)
	}
	return n == 0
}

// within tells whether a number is one from the least to the most that may be.
func within(x, least, most int) bool {
	return x >= least && x <= most
}
