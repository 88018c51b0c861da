package sec

import "caponier/api"

// What a function may cost, and what is told of each that is too dear.
const (
	maxCost = 4000
	tooDear = maxCost + 1
)

// bill adds up what a function costs. All that it looks at costs something, and it looks into nothing once that is too dear: so it ends soon, whatever lists a tree holds in many places, and no number wraps.
type bill struct {
	callees map[string]*function
	sum     int
}

// full tells whether it is known that a function may not cost so much.
func (b *bill) full() bool {
	return b.sum > maxCost
}

// stmts adds statements that are done so many times. What is around them was added as often, so that number is at most maxCost wherever one is looked at.
func (b *bill) stmts(l []api.Stmt, times int) {
	for _, s := range l {
		if b.full() {
			return
		}
		b.stmt(s, times)
	}
}

// stmt adds a statement.
func (b *bill) stmt(s api.Stmt, times int) {
	b.sum += times
	b.exprs(s.Args, times)
	if s.Kind == api.SFor {
		times *= s.Num
		b.sum += times
	}
	b.stmts(s.Then, times)
	b.stmts(s.Else, times)
}

// exprs adds expressions.
func (b *bill) exprs(l []api.Expr, times int) {
	for _, e := range l {
		if b.full() {
			return
		}
		b.sum += times
		if e.Kind == api.ECall {
			b.sum += times * b.callees[e.Name].cost
		}
		b.exprs(e.Args, times)
	}
}

// findCost finds out what a function costs. Callers see to it that this was done of those that it calls.
func (f *function) findCost() {
	b := &bill{callees: f.callees}
	b.stmts(f.Body, 1)
	f.cost = min(b.sum, tooDear)
}

// keepCheap wants a function not to be too dear.
func (f *function) keepCheap() {
	want(f.cost <= maxCost, api.Size)
}
