package threshold_test

import (
	"fmt"
	"math"
	"math/big"
	"math/rand"
	"regexp"
	"slices"
	"strconv"
	"strings"
	"testing"

	"keyevent/api"
	"keyevent/node"
	"keyevent/threshold"
)

// The definition, as the chapter has it

const mostKeys = 8

func isWeight(f api.Fraction) bool {
	if f.Den < 1 || f.Den > 100 || f.Num < 0 || f.Num > f.Den {
		return false
	}
	for d := 2; d <= f.Den; d++ {
		if f.Num%d == 0 && f.Den%d == 0 {
			return false
		}
	}
	return true
}

func allWeights(l []api.Fraction) bool {
	for _, f := range l {
		if !isWeight(f) {
			return false
		}
	}
	return true
}

// exactSum returns the sum of weights with the library's fractions.
func exactSum(l []api.Fraction) *big.Rat {
	sum := new(big.Rat)
	for _, f := range l {
		sum.Add(sum, big.NewRat(int64(f.Num), int64(f.Den)))
	}
	return sum
}

// isOne reports whether the sum of weights is at least 1.
func isOne(l []api.Fraction) bool {
	return exactSum(l).Cmp(big.NewRat(1, 1)) >= 0
}

func isValid(t api.Threshold, keys int) bool {
	if len(t.Weights) == 0 {
		return keys == 0 && t.Number == 0 || t.Number >= 1 && t.Number <= keys && keys <= mostKeys
	}
	count := 0
	for _, l := range t.Weights {
		if len(l) == 0 || !allWeights(l) || !isOne(l) {
			return false
		}
		count += len(l)
	}
	return t.Number == 0 && count == keys && count <= mostKeys
}

// keysFor returns the numbers of keys for which a threshold is valid.
func keysFor(t api.Threshold) []int {
	var l []int
	for keys := -2; keys <= mostKeys+2; keys++ {
		if isValid(t, keys) {
			l = append(l, keys)
		}
	}
	return l
}

func isEnough(t api.Threshold, set []int) bool {
	if len(t.Weights) == 0 {
		count := 0
		for key := range mostKeys {
			if slices.Contains(set, key) {
				count++
			}
		}
		return count >= t.Number
	}
	first := 0
	for _, l := range t.Weights {
		var own []api.Fraction
		for i, f := range l {
			if slices.Contains(set, first+i) {
				own = append(own, f)
			}
		}
		if !isOne(own) {
			return false
		}
		first += len(l)
	}
	return true
}

// allSets returns all sets of so many keys.
func allSets(keys int) [][]int {
	var sets [][]int
	for bits := range 1 << keys {
		var set []int
		for key := range keys {
			if bits>>key&1 == 1 {
				set = append(set, key)
			}
		}
		sets = append(sets, set)
	}
	return sets
}

// leastOf tries all sets of keys.
func leastOf(t api.Threshold, keys int) int {
	least := -1
	if !isValid(t, keys) {
		return least
	}
	for _, set := range allSets(keys) {
		if isEnough(t, set) && (least < 0 || len(set) < least) {
			least = len(set)
		}
	}
	return least
}

func textOf(f api.Fraction) string {
	switch f {
	case api.Fraction{Num: 0, Den: 1}:
		return "0"
	case api.Fraction{Num: 1, Den: 1}:
		return "1"
	}
	return fmt.Sprintf("%d/%d", f.Num, f.Den)
}

func textsOf(l []api.Fraction) api.Node {
	n := api.Node{Kind: api.NodeList}
	for _, f := range l {
		n.Items = append(n.Items, text(textOf(f)))
	}
	return n
}

func nodeOf(t api.Threshold) api.Node {
	if len(t.Weights) == 0 {
		return text(fmt.Sprintf("%x", t.Number))
	}
	if len(t.Weights) == 1 {
		return textsOf(t.Weights[0])
	}
	n := api.Node{Kind: api.NodeList}
	for _, l := range t.Weights {
		n.Items = append(n.Items, textsOf(l))
	}
	return n
}

var (
	numberPattern   = regexp.MustCompile(`\A[0-8]\z`)
	fractionPattern = regexp.MustCompile(`\A([1-9][0-9]{0,2})/([1-9][0-9]{0,2})\z`)
)

// weightOf returns the weight with a text, and whether there is one.
func weightOf(s string) (api.Fraction, bool) {
	if s == "0" || s == "1" {
		return api.Fraction{Num: int(s[0] - '0'), Den: 1}, true
	}
	parts := fractionPattern.FindStringSubmatch(s)
	if parts == nil {
		return api.Fraction{}, false
	}
	num, _ := strconv.Atoi(parts[1])
	den, _ := strconv.Atoi(parts[2])
	f := api.Fraction{Num: num, Den: den}
	return f, f.Den > 1 && isWeight(f)
}

// weightsOf returns the weights whose list a node is, and whether it is one.
func weightsOf(n api.Node) ([]api.Fraction, bool) {
	var l []api.Fraction
	for _, item := range n.Items {
		f, ok := weightOf(item.Text)
		if !ok || !same(item, text(item.Text)) {
			return nil, false
		}
		l = append(l, f)
	}
	return l, same(n, api.Node{Kind: api.NodeList, Items: n.Items})
}

// thresholdOf returns the threshold with a node, and whether there is one.
func thresholdOf(n api.Node) (api.Threshold, bool) {
	if same(n, text(n.Text)) && numberPattern.MatchString(n.Text) {
		return api.Threshold{Number: int(n.Text[0] - '0')}, true
	}
	t := api.Threshold{}
	if l, ok := weightsOf(n); ok {
		t.Weights = append(t.Weights, l)
		return t, len(keysFor(t)) == 1
	}
	for _, item := range n.Items {
		l, ok := weightsOf(item)
		if !ok {
			return api.Threshold{}, false
		}
		t.Weights = append(t.Weights, l)
	}
	return t, same(n, api.Node{Kind: api.NodeList, Items: n.Items}) && len(n.Items) > 1 && len(keysFor(t)) == 1
}

// same reports whether two nodes are equal in all parts.
func same(a, b api.Node) bool {
	return a.Kind == b.Kind && a.Bool == b.Bool && a.Number == b.Number && a.Text == b.Text &&
		slices.Equal(a.Names, b.Names) && slices.EqualFunc(a.Items, b.Items, same)
}

func sameThreshold(a, b api.Threshold) bool {
	return a.Number == b.Number && slices.EqualFunc(a.Weights, b.Weights, slices.Equal[[]api.Fraction])
}

// Thresholds and nodes

func text(s string) api.Node { return api.Node{Kind: api.NodeText, Text: s} }

func texts(l ...string) api.Node { return node.Texts(l) }

func list(items ...api.Node) api.Node { return node.List(items) }

// of returns the fractions with these numerators and denominators.
func of(l ...int) []api.Fraction {
	var fractions []api.Fraction
	for i := 0; i < len(l); i += 2 {
		fractions = append(fractions, api.Fraction{Num: l[i], Den: l[i+1]})
	}
	return fractions
}

func number(n int) api.Threshold { return api.Threshold{Number: n} }

func weighted(lists ...[]api.Fraction) api.Threshold { return api.Threshold{Weights: lists} }

func repeated(f api.Fraction, count int) []api.Fraction {
	return slices.Repeat([]api.Fraction{f}, count)
}

// weights returns all weights.
func weights() []api.Fraction {
	var l []api.Fraction
	for den := 1; den <= 100; den++ {
		for num := range den + 1 {
			if f := (api.Fraction{Num: num, Den: den}); isWeight(f) {
				l = append(l, f)
			}
		}
	}
	return l
}

// badFractions are no weights.
func badFractions() []api.Fraction {
	l := of(
		0, 0, 1, 0, 2, 0, -1, 0, 0, -1, 1, -1, -1, -1, -1, 1, -1, 2, 1, -2, -1, -2, 0, 2, 0, 3, 0, 100, 2, 2, 3, 3, 100, 100, 2, 4, 3, 6, 50, 100, 25, 100, 99, 99, 6, 9, 10, 25, 49, 98, 2, 1, 3, 2, 4, 3, 101, 100, 100, 99, 5, 4, 7, 3,
		1, 101, 0, 101, 100, 101, 50, 101, 101, 101, 1, 102, 1, 103, 1, 127, 1, 128, 1, 200, 1, 255, 1, 256, 1, 257, 1, 1000, 7, 1009, -99, 100, 1, -100, 0, -100, 1<<32, 1, 1, 1<<32, 1<<32+1, 1<<32+2, 1, 1<<32+2, 1<<32+1, 2,
		math.MaxInt, math.MaxInt, math.MaxInt, 1, 1, math.MaxInt, math.MinInt, math.MinInt, math.MinInt, 1, 1, math.MinInt, math.MinInt, -1, -1, math.MinInt, math.MaxInt, 0, math.MinInt, 0, 0, math.MinInt, 0, math.MaxInt, math.MinInt, 100, math.MaxInt, 100, math.MaxInt, math.MinInt, math.MinInt, math.MaxInt,
	)
	for d := 2; d <= 100; d++ {
		l = append(l, of(0, d, d, d, d+1, d, -1, d, 1, -d, 2, 2*d, 1, 100+d)...)
	}
	return l
}

// justOne are lists whose sum is 1, or so little more that floats hide it.
func justOne() [][]api.Fraction {
	return [][]api.Fraction{
		of(1, 1), of(1, 2, 1, 2), of(1, 2, 1, 3, 1, 6), of(1, 3, 2, 3), of(99, 100, 1, 100), of(1, 4, 1, 4, 1, 4, 1, 4), repeated(api.Fraction{Num: 1, Den: 8}, 8), of(1, 1, 0, 1), of(0, 1, 0, 1, 1, 1), of(0, 1, 0, 1, 0, 1, 0, 1, 0, 1, 0, 1, 0, 1, 1, 1), of(1, 3, 1, 3, 1, 3), of(1, 10, 1, 5, 7, 10), of(49, 97, 48, 97),
		of(43, 99, 43, 76), of(15, 82, 76, 93), of(19, 66, 6, 83, 10, 89, 48, 91), of(17, 78, 31, 79, 9, 61, 23, 95), of(9, 100, 24, 67, 11, 91, 5, 99, 21, 61, 3, 83), of(10, 69, 9, 80, 23, 73, 3, 83, 6, 89, 23, 71),
		of(43, 81, 1, 64, 9, 77, 4, 89, 6, 73, 1, 71, 3, 65, 10, 67), of(7, 76, 16, 67, 8, 63, 6, 71, 10, 83, 1, 79, 4, 73, 24, 89),
	}
}

// justLess are lists whose sum is less than 1, some by less than floats tell.
func justLess() [][]api.Fraction {
	return [][]api.Fraction{
		of(0, 1), of(1, 2), of(99, 100), of(1, 2, 1, 3), of(1, 2, 49, 100), of(0, 1, 0, 1), of(99, 100, 0, 1), of(1, 3, 65, 98), of(1, 4, 1, 4, 1, 4), repeated(api.Fraction{Num: 1, Den: 8}, 7), repeated(api.Fraction{Num: 0, Den: 1}, 8), repeated(api.Fraction{Num: 1, Den: 9}, 8), repeated(api.Fraction{Num: 12, Den: 97}, 8), repeated(api.Fraction{Num: 1, Den: 100}, 8),
		of(47, 75, 25, 67), of(71, 83, 13, 90), of(1, 78, 69, 95, 3, 83, 20, 89), of(25, 68, 35, 73, 4, 93, 10, 91), of(7, 72, 20, 97, 35, 89, 1, 83, 3, 61, 23, 95), of(37, 94, 2, 67, 26, 97, 2, 77, 16, 69, 4, 79),
		of(19, 79, 21, 62, 11, 95, 1, 69, 1, 61, 1, 77, 1, 73, 24, 97), of(3, 74, 7, 65, 8, 87, 2, 61, 14, 83, 24, 97, 5, 71, 19, 79),
	}
}

// smallLists are all lists of at most so many weights with small denominators.
func smallLists(most int) [][]api.Fraction {
	lists := [][]api.Fraction{nil}
	var all [][]api.Fraction
	for range most {
		var longer [][]api.Fraction
		for _, l := range lists {
			for _, f := range of(0, 1, 1, 1, 1, 2, 1, 3, 2, 3, 1, 4, 3, 4) {
				longer = append(longer, append(slices.Clone(l), f))
			}
		}
		lists = longer
		all = append(all, longer...)
	}
	return all
}

// randomList returns so many weights, mostly such that their sum is not far
// from 1.
func randomList(r *rand.Rand, count int) []api.Fraction {
	var l []api.Fraction
	for range count {
		for {
			den := 1 + r.Intn(100)
			f := api.Fraction{Num: r.Intn(1 + min(den, 1+3*den/count)), Den: den}
			if isWeight(f) {
				l = append(l, f)
				break
			}
		}
	}
	return l
}

// randomLists returns some lists that have at most so many weights together.
func randomLists(r *rand.Rand, most int) [][]api.Fraction {
	var lists [][]api.Fraction
	for most > 0 {
		count := 1 + r.Intn(most)
		lists = append(lists, randomList(r, count))
		most -= count + r.Intn(3)
	}
	return lists
}

// validThresholds are some of each sort.
func validThresholds() []api.Threshold {
	var l []api.Threshold
	for n := range mostKeys + 1 {
		l = append(l, number(n))
	}
	for _, one := range justOne() {
		l = append(l, weighted(one))
		for _, other := range justOne() {
			l = append(l, weighted(one, other), weighted(one, other, of(1, 1)), weighted(of(1, 1), of(0, 1, 1, 2, 1, 2), one))
		}
	}
	for _, small := range smallLists(3) {
		l = append(l, weighted(small), weighted(small, of(1, 2, 1, 2)), weighted(of(1, 1), small, small))
	}
	for count := 1; count <= mostKeys; count++ {
		l = append(l, weighted(repeated(api.Fraction{Num: 1, Den: 1}, count)), weighted(slices.Repeat([][]api.Fraction{of(1, 1)}, count)...))
	}
	r := rand.New(rand.NewSource(1))
	for range 3000 {
		l = append(l, api.Threshold{Weights: randomLists(r, mostKeys)})
	}
	return slices.DeleteFunc(l, func(t api.Threshold) bool { return len(keysFor(t)) == 0 })
}

// badThresholds are valid for no number of keys.
func badThresholds() []api.Threshold {
	l := []api.Threshold{
		{Number: 1, Weights: [][]api.Fraction{of(1, 1)}}, {Number: 1, Weights: [][]api.Fraction{nil}}, {Number: -1, Weights: [][]api.Fraction{of(1, 1)}}, {Number: 2, Weights: [][]api.Fraction{of(1, 1, 1, 1)}}, {Number: 8, Weights: [][]api.Fraction{of(1, 1), of(1, 1)}}, {Number: math.MaxInt, Weights: [][]api.Fraction{of(1, 1)}},
		weighted(nil), weighted(nil, nil), weighted(of(1, 1), nil), weighted(nil, of(1, 1)), weighted(of(1, 1), nil, of(1, 1)), weighted(of(1, 1), []api.Fraction{}), weighted([]api.Fraction{}), {Weights: make([][]api.Fraction, 100)},
		weighted(repeated(api.Fraction{Num: 1, Den: 1}, mostKeys+1)), weighted(repeated(api.Fraction{Num: 1, Den: 9}, mostKeys+1)), weighted(repeated(api.Fraction{Num: 1, Den: 1}, 1000)), weighted(repeated(api.Fraction{Num: 1, Den: 1}, 4), repeated(api.Fraction{Num: 1, Den: 1}, 5)), weighted(of(1, 1), repeated(api.Fraction{Num: 1, Den: 1}, mostKeys)), weighted(repeated(api.Fraction{Num: 1, Den: 1}, mostKeys), of(1, 1)),
		{Weights: slices.Repeat([][]api.Fraction{of(1, 1)}, mostKeys+1)}, {Weights: slices.Repeat([][]api.Fraction{of(1, 1)}, 1000)},
	}
	for _, n := range []int{-1, -2, -8, 9, 10, 15, 16, 17, 255, 256, 257, 264, 1 << 32, 1<<32 + 1, 1<<32 + 8, math.MaxInt, math.MinInt, math.MinInt + 1} {
		l = append(l, number(n))
	}
	for _, less := range justLess() {
		l = append(l, weighted(less), weighted(less, of(1, 1)), weighted(of(1, 1), less), weighted(of(1, 2, 1, 2), less, of(1, 1)), weighted(less, less), weighted(of(1, 1, 1, 1), less))
	}
	for _, bad := range badFractions() {
		f := []api.Fraction{bad}
		l = append(l, weighted(f), weighted(append(f, of(1, 1)...)), weighted(append(of(1, 1), bad)), weighted(append(of(1, 1, 0, 1), append(f, of(1, 1, 1, 2)...)...)), weighted(of(1, 1), append(f, of(1, 1)...)), weighted(append(f, of(1, 1)...), of(1, 1)))
	}
	return l
}

// Checks

func expectValid(t *testing.T, x api.Threshold, keys int) {
	t.Helper()
	if want := isValid(x, keys); threshold.Valid(x, keys) != want {
		t.Errorf("Valid(%v, %d): %t", x, keys, !want)
	}
}

// expectSum checks Sum of weights that have one.
func expectSum(t *testing.T, l []api.Fraction) {
	t.Helper()
	exact := exactSum(l)
	want := api.Fraction{Num: int(exact.Num().Int64()), Den: int(exact.Denom().Int64())}
	if sum, e := threshold.Sum(l); e != api.OK || sum != want {
		t.Errorf("Sum(%v): %v, error %d; want %v", l, sum, e, want)
	}
}

func expectNoSum(t *testing.T, l []api.Fraction, want api.Errno) {
	t.Helper()
	if sum, e := threshold.Sum(l); e != want || sum != (api.Fraction{}) {
		t.Errorf("Sum of %d, %.100v: %v, error %d; want error %d alone", len(l), l, sum, e, want)
	}
}

func expectEnough(t *testing.T, x api.Threshold, set []int) {
	t.Helper()
	if want := isEnough(x, set); threshold.Enough(x, set) != want {
		t.Errorf("Enough(%v, %v): %t", x, set, !want)
	}
}

func expectLeast(t *testing.T, x api.Threshold, keys int) {
	t.Helper()
	if least, want := threshold.Least(x, keys), leastOf(x, keys); least != want {
		t.Errorf("Least(%v, %d): %d; want %d", x, keys, least, want)
	}
}

func expectNode(t *testing.T, x api.Threshold, want api.Node) {
	t.Helper()
	if n := threshold.Node(x); !same(n, want) {
		t.Errorf("Node(%v): %v; want %v", x, n, want)
	}
	if parsed, e := threshold.Parse(want); e != api.OK || !sameThreshold(parsed, x) {
		t.Errorf("Parse(%v): %v, error %d; want %v", want, parsed, e, x)
	}
}

// expectParsed checks Parse of any node, and reports whether it has a threshold.
func expectParsed(t *testing.T, n api.Node) bool {
	t.Helper()
	want, ok := thresholdOf(n)
	wantError := api.OK
	if !ok {
		want, wantError = api.Threshold{}, api.ErrThreshold
	}
	if x, e := threshold.Parse(n); e != wantError || !sameThreshold(x, want) {
		t.Errorf("Parse(%.100v): %v, error %d; want %v, error %d", n, x, e, want, wantError)
	}
	return ok
}

func expectNotParsed(t *testing.T, n api.Node) {
	t.Helper()
	if expectParsed(t, n) {
		t.Errorf("the definition takes %.100v", n)
	}
}

// P13.1: Valid

func TestNumbers(t *testing.T) {
	numbers := []int{-9, -8, -7, -2, -1, 0, 1, 2, 3, 4, 5, 6, 7, 8, 9, 10, 15, 16, 17, 100, 255, 256, 257, 1 << 32, 1<<32 + 1, math.MaxInt, math.MinInt, math.MinInt + 1}
	count := 0
	for _, n := range numbers {
		for _, keys := range numbers {
			expectValid(t, number(n), keys)
			expectValid(t, api.Threshold{Number: n, Weights: [][]api.Fraction{}}, keys)
			if threshold.Valid(number(n), keys) {
				count++
			}
			if threshold.Valid(api.Threshold{Number: n, Weights: [][]api.Fraction{of(1, 1)}}, keys) != (n == 0 && keys == 1) {
				t.Errorf("Valid of %d and a weight, %d", n, keys)
			}
		}
	}
	// 1 of 1, 1 and 2 of 2, and so on, and none of none
	if count != 8*9/2+1 {
		t.Error("valid:", count)
	}
}

func TestWeightsAsTheChapterHasThem(t *testing.T) {
	for keys := -1; keys <= 10; keys++ {
		for _, x := range []struct {
			t    api.Threshold
			keys int
		}{
			{weighted(of(1, 2, 1, 2, 1, 2)), 3}, {weighted(of(1, 1)), 1}, {weighted(of(0, 1, 1, 1)), 2}, {weighted(of(1, 2, 1, 2), of(1, 3, 1, 3, 1, 3)), 5}, {weighted(of(1, 1), of(1, 1), of(1, 2, 1, 2)), 4}, {weighted(of(1, 8, 1, 8, 1, 8, 1, 8, 1, 8, 1, 8, 1, 8, 1, 8)), 8}, {weighted(of(1, 100, 99, 100), of(1, 1), of(1, 1), of(1, 4, 3, 4), of(1, 1), of(1, 1)), 8},
		} {
			if threshold.Valid(x.t, keys) != (keys == x.keys) {
				t.Errorf("Valid(%v, %d)", x.t, keys)
			}
		}
		for _, x := range []api.Threshold{
			weighted(of(1, 2, 1, 3)), weighted(of(0, 1)), weighted(of(1, 2, 1, 2), of(1, 2, 1, 3)), weighted(of(1, 2), of(1, 2)), weighted(of(2, 4, 1, 2)), weighted(of(3, 2)), weighted(of(-1, 2, 3, 2)), weighted(of(1, 1, 1, 0)), weighted(of(1, 1, 1, 101)), weighted(nil), weighted(of(1, 1), nil), weighted(nil, of(1, 1)), weighted(repeated(api.Fraction{Num: 1, Den: 1}, 9)),
		} {
			if threshold.Valid(x, keys) {
				t.Errorf("Valid(%v, %d)", x, keys)
			}
		}
	}
}

func TestValidForOtherNumbersOfKeys(t *testing.T) {
	for _, x := range validThresholds() {
		for keys := -2; keys <= 20; keys++ {
			expectValid(t, x, keys)
		}
		for _, keys := range []int{100, 256, 257, 1<<32 + 1, 1<<32 + 2, math.MaxInt, math.MinInt} {
			expectValid(t, x, keys)
		}
	}
}

func TestThresholdsThatAreNotValid(t *testing.T) {
	for _, x := range badThresholds() {
		if len(keysFor(x)) > 0 {
			t.Fatalf("the definition takes %v", x)
		}
		for keys := -2; keys <= 20; keys++ {
			expectValid(t, x, keys)
		}
		for _, keys := range []int{x.Number, 1000, 1004, math.MaxInt, math.MinInt} {
			expectValid(t, x, keys)
		}
	}
}

func TestSumsAroundOne(t *testing.T) {
	for _, l := range justOne() {
		if !threshold.Valid(weighted(l), len(l)) {
			t.Errorf("Valid(%v)", l)
		}
	}
	for _, l := range justLess() {
		if threshold.Valid(weighted(l), len(l)) {
			t.Errorf("Valid(%v)", l)
		}
	}
	valid := 0
	for _, l := range smallLists(4) {
		expectValid(t, weighted(l), len(l))
		expectValid(t, weighted(of(1, 1), l), 1+len(l))
		expectValid(t, weighted(l, of(1, 2, 1, 2)), 2+len(l))
		if isValid(weighted(l), len(l)) {
			valid++
		}
	}
	if valid < 1000 {
		t.Error("valid:", valid)
	}
}

// Each weight alone, and with what is just not enough to make it 1, and just
// enough.
func TestEachWeight(t *testing.T) {
	for _, f := range weights() {
		for _, other := range of(0, 1, 1, 1, 1, 2, f.Den-f.Num, f.Den, f.Den-f.Num-1, f.Den, f.Den-f.Num+1, f.Den, 1, f.Den) {
			expectValid(t, weighted([]api.Fraction{f, other}), 2)
			expectValid(t, weighted([]api.Fraction{other, f}), 2)
		}
		expectValid(t, weighted([]api.Fraction{f}), 1)
		expectValid(t, weighted(of(1, 1), []api.Fraction{f}), 2)
	}
}

// Each fraction with a small numerator and denominator is a weight or not, for
// Valid and for Sum.
func TestWhichFractionsAreWeights(t *testing.T) {
	count := 0
	for num := -3; num <= 205; num++ {
		for den := -3; den <= 205; den++ {
			f := api.Fraction{Num: num, Den: den}
			if isWeight(f) {
				count++
				expectSum(t, []api.Fraction{f})
				expectSum(t, []api.Fraction{f, {Num: 1, Den: 1}, f})
			} else {
				expectNoSum(t, []api.Fraction{f}, api.ErrRange)
				expectNoSum(t, []api.Fraction{{Num: 1, Den: 1}, f}, api.ErrRange)
			}
			if threshold.Valid(weighted([]api.Fraction{{Num: 1, Den: 1}, f}), 2) != isWeight(f) {
				t.Errorf("Valid of 1 and %v", f)
			}
		}
	}
	// the numbers below each denominator that are prime to it, and 0 and 1
	if count != 3045 {
		t.Error("weights:", count)
	}
}

// P13.1: Sum

func TestSumsAsTheChapterHasThem(t *testing.T) {
	for _, x := range []struct {
		l    []api.Fraction
		want api.Fraction
	}{
		{nil, api.Fraction{Num: 0, Den: 1}},
		{[]api.Fraction{}, api.Fraction{Num: 0, Den: 1}},
		{of(0, 1), api.Fraction{Num: 0, Den: 1}},
		{of(1, 1), api.Fraction{Num: 1, Den: 1}},
		{of(1, 100), api.Fraction{Num: 1, Den: 100}},
		{of(99, 100), api.Fraction{Num: 99, Den: 100}},
		{of(0, 1, 0, 1, 0, 1), api.Fraction{Num: 0, Den: 1}},
		{of(1, 2, 1, 2), api.Fraction{Num: 1, Den: 1}},
		{of(1, 2, 1, 2, 1, 2), api.Fraction{Num: 3, Den: 2}},
		{of(1, 2, 1, 3), api.Fraction{Num: 5, Den: 6}},
		{of(1, 4, 1, 4), api.Fraction{Num: 1, Den: 2}},
		{of(1, 6, 1, 10), api.Fraction{Num: 4, Den: 15}},
		{of(1, 6, 1, 3, 1, 2), api.Fraction{Num: 1, Den: 1}},
		{of(1, 100, 1, 100), api.Fraction{Num: 1, Den: 50}},
		{of(99, 100, 98, 99), api.Fraction{Num: 19601, Den: 9900}},
		{of(1, 1, 1, 1, 1, 1, 1, 1, 1, 1, 1, 1, 1, 1, 1, 1), api.Fraction{Num: 8, Den: 1}},
		{of(1, 1, 1, 2, 1, 3, 1, 4, 1, 5, 1, 6, 1, 7, 1, 8), api.Fraction{Num: 761, Den: 280}},
		{of(99, 100, 98, 99, 96, 97, 90, 91, 88, 89, 82, 83, 78, 79, 72, 73), api.Fraction{Num: 29443249145739383, Den: 3722771424071700}},
		{of(43, 81, 1, 64, 9, 77, 4, 89, 6, 73, 1, 71, 3, 65, 10, 67), api.Fraction{Num: 801890545135681, Den: 801890545135680}},
		{of(3, 74, 7, 65, 8, 87, 2, 61, 14, 83, 24, 97, 5, 71, 19, 79), api.Fraction{Num: 1152734869933529, Den: 1152734869933530}},
	} {
		if sum, e := threshold.Sum(x.l); e != api.OK || sum != x.want {
			t.Errorf("Sum(%v): %v, error %d; want %v", x.l, sum, e, x.want)
		}
	}
}

func TestSumsOfWeights(t *testing.T) {
	all := weights()
	for i, f := range all {
		for count := range mostKeys + 1 {
			expectSum(t, repeated(f, count))
		}
		for _, j := range []int{0, 1, i / 2, i, len(all) - 1 - i, len(all) - 1} {
			expectSum(t, []api.Fraction{f, all[j]})
			expectSum(t, []api.Fraction{all[j], all[i/3], f})
		}
	}
	for _, l := range slices.Concat(smallLists(4), justOne(), justLess()) {
		expectSum(t, l)
	}
	r := rand.New(rand.NewSource(2))
	for range 20000 {
		expectSum(t, randomList(r, 1+r.Intn(mostKeys)))
		var l []api.Fraction
		for range 1 + r.Intn(mostKeys) {
			l = append(l, all[len(all)-1-r.Intn(1000)])
		}
		expectSum(t, l)
	}
}

func TestSumOfTooMany(t *testing.T) {
	for _, f := range of(0, 1, 1, 1, 1, 2, 1, 100, 99, 100, 2, 4, 1, 0, 0, 0, 3, 2, -1, 1) {
		for _, count := range []int{9, 10, 15, 16, 17, 100, 255, 256, 257, 1000, 1 << 16, 1<<16 + 8} {
			expectNoSum(t, repeated(f, count), api.ErrLimit)
		}
		expectNoSum(t, append(of(1, 1, 1, 1, 1, 1, 1, 1, 1, 1, 1, 1, 1, 1, 1, 1), f), api.ErrLimit)
		expectNoSum(t, append([]api.Fraction{f}, of(1, 1, 1, 1, 1, 1, 1, 1, 1, 1, 1, 1, 1, 1, 1, 1)...), api.ErrLimit)
	}
}

func TestSumOfWhatIsNoWeight(t *testing.T) {
	for _, bad := range badFractions() {
		if isWeight(bad) {
			t.Fatalf("the definition takes %v", bad)
		}
		for _, f := range of(0, 1, 1, 1, 1, 2, 37, 97) {
			for place := range mostKeys {
				for count := place + 1; count <= mostKeys; count++ {
					l := repeated(f, count)
					l[place] = bad
					expectNoSum(t, l, api.ErrRange)
				}
			}
		}
		for count := 1; count <= mostKeys; count++ {
			expectNoSum(t, repeated(bad, count), api.ErrRange)
		}
	}
}

// P13.2

func TestEnoughAsTheChapterHasIt(t *testing.T) {
	halves := weighted(of(1, 2, 1, 2, 1, 2))
	lists := weighted(of(1, 2, 1, 2, 1, 2), of(1, 1), of(0, 1, 1, 3, 2, 3))
	for _, x := range []struct {
		t    api.Threshold
		set  []int
		want bool
	}{
		{number(0), nil, true}, {number(0), []int{}, true}, {number(0), []int{0}, true}, {number(0), []int{-1, 9}, true}, {api.Threshold{Weights: [][]api.Fraction{}}, nil, true},
		{number(1), nil, false}, {number(1), []int{0}, true}, {number(1), []int{7}, true}, {number(1), []int{8}, false}, {number(1), []int{-1}, false}, {number(1), []int{-8}, false}, {number(1), []int{9, 10, 255, 256, 257}, false}, {number(1), []int{math.MinInt, math.MaxInt}, false}, {number(1), []int{1 << 32, 1<<32 + 1}, false},
		{number(2), []int{3}, false}, {number(2), []int{3, 3}, false}, {number(2), []int{3, 3, 3, 3}, false}, {number(2), []int{3, 5}, true}, {number(2), []int{5, 3, 5}, true}, {number(2), []int{7, 0}, true}, {number(2), []int{7, 8}, false}, {number(2), []int{0, -1}, false}, {number(2), []int{3, 3, -1, 5}, true},
		{number(8), []int{0, 1, 2, 3, 4, 5, 6, 7}, true}, {number(8), []int{7, 6, 5, 4, 3, 2, 1, 0, 0}, true}, {number(8), []int{1, 2, 3, 4, 5, 6, 7, 8}, false}, {number(8), []int{-1, 0, 1, 2, 3, 4, 5, 6}, false}, {number(8), []int{0, 1, 2, 3, 4, 5, 6, 6}, false},
		{halves, nil, false}, {halves, []int{0}, false}, {halves, []int{0, 0}, false}, {halves, []int{0, 1}, true}, {halves, []int{0, 2}, true}, {halves, []int{2, 1}, true}, {halves, []int{2, 1, 0}, true}, {halves, []int{2, 3}, false}, {halves, []int{2, -1}, false}, {halves, []int{1, 3, 4, 5, 6, 7, 8}, false}, {halves, []int{1, 3, 2}, true},
		{lists, []int{0, 1, 3, 5, 6}, true}, {lists, []int{6, 5, 3, 2, 0}, true}, {lists, []int{0, 1, 2, 3, 4, 5, 6}, true}, {lists, []int{0, 1, 3, 4, 6}, false}, {lists, []int{0, 1, 3, 4, 5}, false}, {lists, []int{0, 3, 5, 6}, false}, {lists, []int{0, 1, 5, 6}, false}, {lists, []int{0, 0, 3, 5, 6}, false}, {lists, []int{0, 1, 3}, false}, {lists, []int{0, 1, 3, 5, 7}, false}, {lists, nil, false},
		{weighted(of(1, 1), of(1, 1)), []int{0}, false}, {weighted(of(1, 1), of(1, 1)), []int{1}, false}, {weighted(of(1, 1), of(1, 1)), []int{0, 1}, true}, {weighted(of(1, 1), of(1, 1)), []int{0, 0}, false}, {weighted(of(0, 1, 1, 1)), []int{0}, false}, {weighted(of(0, 1, 1, 1)), []int{1}, true},
	} {
		if threshold.Enough(x.t, x.set) != x.want {
			t.Errorf("Enough(%v, %v): %t", x.t, x.set, !x.want)
		}
	}
}

// Each set of keys, and others with the same keys in another order, repeated,
// and among numbers of no keys.
func TestEnoughOfAllSets(t *testing.T) {
	sets := allSets(mostKeys)
	enough := map[bool]int{}
	for i, x := range validThresholds() {
		for j, set := range sets {
			want := isEnough(x, set)
			enough[want]++
			if threshold.Enough(x, set) != want {
				t.Errorf("Enough(%v, %v): %t", x, set, !want)
			}
			if (i+j)%7 > 0 {
				continue
			}
			backwards := slices.Clone(set)
			slices.Reverse(backwards)
			for _, other := range [][]int{backwards, slices.Repeat(set, 3), slices.Concat(backwards, set), slices.Concat([]int{-1, 8, math.MinInt}, set, []int{math.MaxInt, -8, 9, 1 << 32, 256})} {
				if threshold.Enough(x, other) != want {
					t.Errorf("Enough(%v, %v): %t", x, other, !want)
				}
			}
		}
	}
	if min(enough[true], enough[false]) < 100000 {
		t.Error("sets that are enough, and that are not:", enough[true], enough[false])
	}
}

func TestEnoughOfManyNumbers(t *testing.T) {
	var none, all []int
	for i := range 100000 {
		none = append(none, -1-i, mostKeys+i, math.MaxInt-i, math.MinInt+i)
		all = append(all, i%mostKeys)
	}
	for i, x := range validThresholds() {
		if i%50 > 0 {
			continue
		}
		if threshold.Enough(x, none) != (x.Number == 0 && len(x.Weights) == 0) || !threshold.Enough(x, all) {
			t.Errorf("Enough(%v) of many numbers", x)
		}
	}
	for n := 1; n <= mostKeys; n++ {
		if threshold.Enough(number(n), append(slices.Clone(none), all[:n-1]...)) || !threshold.Enough(number(n), append(slices.Clone(none), all[:n]...)) {
			t.Error("Enough of many numbers and", n)
		}
	}
}

// Keys at which a sum becomes 1 or just does not.
func TestEnoughAroundOne(t *testing.T) {
	for _, l := range justOne() {
		for _, set := range allSets(len(l)) {
			expectEnough(t, weighted(l), set)
		}
	}
	for _, l := range justLess() {
		for place := range len(l) + 1 {
			if len(l) == mostKeys {
				break
			}
			x := weighted(slices.Insert(slices.Clone(l), place, api.Fraction{Num: 1, Den: 1}))
			for _, set := range allSets(len(l) + 1) {
				expectEnough(t, x, set)
			}
		}
	}
}

// P13.3

func TestLeastAsTheChapterHasIt(t *testing.T) {
	for _, x := range []struct {
		t          api.Threshold
		keys, want int
	}{
		{number(0), 0, 0}, {number(0), 1, -1}, {number(0), -1, -1}, {number(1), 0, -1}, {number(1), 1, 1}, {number(1), 8, 1}, {number(1), 9, -1}, {number(8), 8, 8}, {number(8), 7, -1}, {number(8), 9, -1}, {number(9), 9, -1}, {number(-1), 1, -1}, {number(3), 5, 3},
		{weighted(of(1, 2, 1, 2, 1, 2)), 3, 2}, {weighted(of(1, 2, 1, 2, 1, 2)), 2, -1}, {weighted(of(1, 2, 1, 2, 1, 2)), 4, -1}, {weighted(of(1, 1)), 1, 1}, {weighted(of(0, 1, 1, 1)), 2, 1}, {weighted(of(1, 1, 0, 1)), 2, 1}, {weighted(of(1, 2, 1, 2)), 2, 2}, {weighted(of(1, 3, 1, 3, 1, 2, 2, 3)), 4, 2}, {weighted(of(1, 4, 1, 4, 1, 2, 1, 4, 1, 4)), 5, 3}, {weighted(of(1, 2, 1, 3)), 2, -1},
		{weighted(of(1, 3, 1, 2, 1, 3, 1, 2)), 4, 2}, {weighted(of(1, 4, 1, 3, 1, 4, 1, 3, 1, 4)), 5, 4}, {weighted(repeated(api.Fraction{Num: 1, Den: 8}, 8)), 8, 8}, {weighted(repeated(api.Fraction{Num: 1, Den: 7}, 8)), 8, 7}, {weighted(repeated(api.Fraction{Num: 1, Den: 1}, 8)), 8, 1}, {weighted(of(99, 100, 1, 100)), 2, 2}, {weighted(of(99, 100, 1, 99)), 2, 2}, {weighted(of(1, 100, 1, 100, 98, 100)), 3, -1}, {weighted(of(1, 100, 1, 100, 49, 50)), 3, 3},
		{weighted(of(1, 2, 1, 2, 1, 2), of(1, 1)), 4, 3}, {weighted(of(1, 1), of(1, 1), of(1, 1)), 3, 3}, {weighted(of(1, 1, 1, 1), of(1, 1, 1, 1)), 4, 2}, {weighted(of(1, 3, 2, 3), of(1, 4, 1, 4, 1, 4, 1, 4), of(0, 1, 1, 1)), 8, 7}, {weighted(of(1, 2, 1, 2), of(1, 2, 1, 3)), 4, -1}, {weighted(nil), 0, -1}, {weighted(of(1, 1), nil), 1, -1},
		{api.Threshold{Number: 1, Weights: [][]api.Fraction{of(1, 1)}}, 1, -1}, {api.Threshold{Weights: [][]api.Fraction{}}, 0, 0},
	} {
		if least := threshold.Least(x.t, x.keys); least != x.want {
			t.Errorf("Least(%v, %d): %d; want %d", x.t, x.keys, least, x.want)
		}
	}
}

func TestLeastOfAllSets(t *testing.T) {
	seen := map[int]int{}
	for _, x := range validThresholds() {
		for _, keys := range keysFor(x) {
			expectLeast(t, x, keys)
			seen[threshold.Least(x, keys)]++
		}
	}
	for least := range mostKeys + 1 {
		if seen[least] == 0 || least > 0 && least < mostKeys && seen[least] < 20 {
			t.Error("valid thresholds with the least number", least, "are", seen[least])
		}
	}
	for _, l := range smallLists(4) {
		expectLeast(t, weighted(l), len(l))
		expectLeast(t, weighted(of(1, 2, 1, 3, 1, 3), l), 3+len(l))
	}
}

func TestLeastOfWhatIsNotValid(t *testing.T) {
	for _, x := range append(badThresholds(), validThresholds()...) {
		good := keysFor(x)
		for _, keys := range []int{-2, -1, 0, 1, 2, 3, 4, 5, 6, 7, 8, 9, 10, 1000, 1<<32 + 1, math.MaxInt, math.MinInt} {
			if !slices.Contains(good, keys) && threshold.Least(x, keys) != -1 {
				t.Errorf("Least(%v, %d): %d", x, keys, threshold.Least(x, keys))
			}
		}
	}
}

// P13.4: Node, and Parse of it

func TestNodesAsTheChapterHasThem(t *testing.T) {
	for _, x := range []struct {
		t    api.Threshold
		want api.Node
	}{
		{number(0), text("0")}, {number(1), text("1")}, {number(7), text("7")}, {number(8), text("8")},
		{weighted(of(1, 1)), texts("1")}, {weighted(of(0, 1, 1, 1)), texts("0", "1")}, {weighted(of(1, 2, 1, 2, 1, 2)), texts("1/2", "1/2", "1/2")}, {weighted(of(99, 100, 1, 100)), texts("99/100", "1/100")}, {weighted(of(1, 10, 9, 10)), texts("1/10", "9/10")}, {weighted(of(1, 1, 10, 11, 0, 1, 11, 16)), texts("1", "10/11", "0", "11/16")}, {weighted(repeated(api.Fraction{Num: 1, Den: 1}, 8)), texts("1", "1", "1", "1", "1", "1", "1", "1")},
		{weighted(of(1, 1), of(1, 1)), list(texts("1"), texts("1"))}, {weighted(of(1, 2, 1, 2), of(1, 1)), list(texts("1/2", "1/2"), texts("1"))}, {weighted(of(1, 1), of(0, 1, 1, 3, 2, 3), of(97, 98, 1, 98)), list(texts("1"), texts("0", "1/3", "2/3"), texts("97/98", "1/98"))}, {weighted(slices.Repeat([][]api.Fraction{of(1, 1)}, 8)...), node.List(slices.Repeat([]api.Node{texts("1")}, 8))},
	} {
		expectNode(t, x.t, x.want)
	}
	if n := threshold.Node(api.Threshold{Weights: [][]api.Fraction{}}); !same(n, text("0")) {
		t.Errorf("Node without weights: %v", n)
	}
}

func TestNodesOfThresholds(t *testing.T) {
	seen := map[string]api.Threshold{}
	for _, x := range validThresholds() {
		expectNode(t, x, nodeOf(x))
		if n := threshold.Node(x); !node.Valid(n) {
			t.Errorf("Node(%v) is no valid node", x)
		}
		shown := fmt.Sprintf("%v", threshold.Node(x))
		if other, ok := seen[shown]; ok && !sameThreshold(other, x) {
			t.Errorf("%v and %v have the same node", other, x)
		}
		seen[shown] = x
	}
	for _, f := range weights() {
		one := api.Fraction{Num: 1, Den: 1}
		expectNode(t, weighted([]api.Fraction{f, one}), texts(textOf(f), "1"))
		expectNode(t, weighted([]api.Fraction{one, f}), texts("1", textOf(f)))
		expectNode(t, weighted(of(1, 1), []api.Fraction{one, f}), list(texts("1"), texts("1", textOf(f))))
	}
}

// P13.4: Parse of what may be no node of a threshold

func TestParseOfShortTexts(t *testing.T) {
	found := 0
	expect := func(s string) {
		if expectParsed(t, text(s)) {
			found++
		}
		expectParsed(t, texts(s))
		expectParsed(t, texts("1", s))
		expectParsed(t, list(texts("1"), texts("1", s, "0")))
	}
	expect("")
	for a := range 256 {
		expect(string([]byte{byte(a)}))
		for b := range 256 {
			expect(string([]byte{byte(a), byte(b)}))
		}
	}
	if found != 9 {
		t.Error("texts of numbers:", found)
	}
	const characters = "0129+-/_ x.\x00"
	for i := range len(characters) * len(characters) * len(characters) * len(characters) {
		s := ""
		for rest := i; rest > 0; rest /= len(characters) {
			s += characters[rest%len(characters):][:1]
		}
		expectParsed(t, text(s))
		expectParsed(t, texts(s, "1"))
	}
}

// Each pair of small numbers, and what stands around it.
func TestParseOfFractions(t *testing.T) {
	found := 0
	for num := -2; num <= 105; num++ {
		for den := -2; den <= 105; den++ {
			s := fmt.Sprintf("%d/%d", num, den)
			if expectParsed(t, texts("1", s)) {
				found++
			}
			expectParsed(t, texts(s))
			if num > 20 && den > 20 && num%5+den%7 > 0 {
				continue
			}
			for _, other := range []string{
				"0" + s, " " + s, s + " ", "+" + s, "-" + s, s + "/1", "/" + s, s + "/", s + ".0", s + "\n", "\x00" + s, s + "\x00", "0x" + s, strings.Replace(s, "/", "/0", 1), strings.Replace(s, "/", "/+", 1), strings.Replace(s, "/", " / ", 1), strings.Replace(s, "/", "//", 1),
				strings.Replace(s, "/", "\\", 1), strings.Replace(s, "/", ":", 1), strings.Replace(s, "/", "_", 1), strings.Replace(s, "/", "/_", 1), strings.Replace(s, "/", "_/", 1), strings.Replace(s, "/", "\u2044", 1), strings.Replace(s, "/", "/0x", 1), strings.Replace(s, "/", ".0/", 1), fmt.Sprintf("%x/%x", num+10, den+10),
			} {
				expectParsed(t, texts("1", other))
				expectParsed(t, list(texts("1"), texts("1", other)))
			}
		}
	}
	// all weights but 0 and 1
	if found != 3045-2 {
		t.Error("texts of weights:", found)
	}
}

func TestParseOfTextsThatAreNoNumber(t *testing.T) {
	for _, s := range []string{
		"", "9", "a", "A", "b", "f", "F", "g", "10", "11", "18", "ff", "FF", "00", "01", "08", "008", "+1", "-1", "+0", "-0", " 1", "1 ", "1\n", "1\x00", "\x001", "1.0", "1.", ".1", "1e0", "0x1", "0X1", "0b1", "0o1", "1_", "_1", "1_0", "0_1", "1/1", "1/2", "0/1", "2/2", "8/1", "one", "\u0661", "\uff11", "\xff", "1\xff", "1,2", "[1]", "\"1\"", "null", "100000001", "100000000000000000001", "7fffffffffffffff", "8000000000000001", "ffffffffffffffff", "10000000000000001", "-8", "18446744073709551617",
		strings.Repeat("0", 100), strings.Repeat("0", 100) + "1", strings.Repeat("1", 100), strings.Repeat("1", 1<<17), strings.Repeat("0", 1<<17) + "1",
	} {
		expectNotParsed(t, text(s))
		expectNotParsed(t, list(text(s)))
		expectNotParsed(t, list(texts(s)))
		expectNotParsed(t, list(texts("1"), text(s)))
		expectNotParsed(t, list(text(s), texts("1")))
		if s != "1/2" {
			expectNotParsed(t, texts("1", s))
			expectNotParsed(t, texts(s, "1", "1"))
			expectNotParsed(t, list(texts("1"), texts(s, "1")))
		}
	}
}

func TestParseOfTextsThatAreNoWeight(t *testing.T) {
	for _, s := range []string{
		"2", "3", "8", "9", "10", "-1", "00", "01", "+0", "-0", "+1", "", "/", "//", "1/", "/1", "/2", "1//2", "1/2/", "/1/2", "1/2/1", "0/1", "1/1", "0/2", "2/2", "2/4", "3/6", "50/100", "3/2", "2/1", "101/100", "1/0", "0/0", "1/00", "1/101", "1/102", "1/1000", "1/256", "1/257", "1/258", "-1/2", "1/-2", "-1/-2", "+1/2", "1/+2", "01/2", "1/02", "001/2", "1/0000002", " 1/2", "1/2 ", "1 /2", "1/ 2", "1/2\n", "1/2\x00",
		"1.0/2", "1/2.0", "0.5", ".5", "50%", "5e-1", "1/a", "a/b", "1/0xa", "0x1/2", "1/A", "1/b", "1_/2", "1/1_0", "1/1_1", "1:2", "1\\2", "1\u20442", "\u00bd", "\u0661/2", "1/\uff12", "1/2\xff", "one/two", "1/4294967298", "4294967297/4294967298", "4294967297/2", "1/18446744073709551618", "18446744073709551617/18446744073709551618", "18446744073709551617/2", "9223372036854775807/9223372036854775807", "-9223372036854775808/1", "1/-9223372036854775808", "-9223372036854775808/-1",
		strings.Repeat("1", 1000), strings.Repeat("1", 1000) + "/" + strings.Repeat("2", 1000), "1/2" + strings.Repeat("0", 1000), strings.Repeat("0", 1000) + "1/2", strings.Repeat("/", 1<<17), strings.Repeat("1/2", 1000),
	} {
		for place := range 3 {
			l := slices.Insert([]string{"1", "1/2"}, place, s)
			expectNotParsed(t, texts(l...))
			expectNotParsed(t, list(texts(l...), texts("1")))
			expectNotParsed(t, list(texts("1"), texts(l...)))
		}
		expectNotParsed(t, texts(s))
		expectNotParsed(t, list(texts(s), texts(s)))
	}
}

func TestParseOfOtherNodes(t *testing.T) {
	null, yes := api.Node{}, api.Node{Kind: api.NodeBool, Bool: true}
	inMap := func(n api.Node) api.Node { return node.Map([]string{"a"}, []api.Node{n}) }
	l := []api.Node{
		null, yes, {Kind: api.NodeBool}, node.Number(0), node.Number(1), node.Number(8), inMap(text("1")), inMap(texts("1")), node.Map(nil, nil), node.Map([]string{"a", "b"}, []api.Node{text("1"), text("1")}), node.Map([]string{"a", "b"}, []api.Node{texts("1"), texts("1")}),
		list(), list(list()), list(list(), list()), list(texts("1"), list()), list(list(), texts("1")), list(texts("1"), list(), texts("1")),
		list(texts("1")), list(texts("1/2", "1/2")), list(list(texts("1"))), list(list(texts("1"), texts("1"))), list(list(texts("1")), list(texts("1"))), list(list(texts("1"), texts("1")), texts("1")), list(text("1"), texts("1")), list(texts("1"), text("1")), list(texts("1"), texts("1"), text("1")), list(text("1"), list()), list(list(), text("1")),
		list(null), list(null, null), list(yes), list(node.Number(1)), list(node.Number(1), text("1")), list(text("1"), node.Number(1)), list(text("1"), null), list(text("1"), inMap(text("1"))), list(texts("1"), null), list(null, texts("1")), list(texts("1"), yes), list(texts("1"), node.Number(1)), list(texts("1"), list(node.Number(1))), list(texts("1"), list(null)), list(texts("1"), list(text("1"), null)), list(texts("1"), inMap(text("1"))), list(inMap(text("1")), inMap(text("1"))), list(inMap(texts("1"))), list(texts("1"), node.Map(nil, nil)),
		texts("1/2", "1/3"), texts("0"), texts("1/2"), list(texts("1/2"), texts("1/2")), list(texts("1"), texts("1/2", "49/100")), list(texts("0", "0"), texts("1")),
		texts("1", "1", "1", "1", "1", "1", "1", "1", "1"), list(texts("1", "1", "1", "1", "1"), texts("1", "1", "1", "1")), list(texts("1"), texts("1", "1", "1", "1", "1", "1", "1", "1")), node.List(slices.Repeat([]api.Node{texts("1")}, 9)), node.List(slices.Repeat([]api.Node{text("1")}, api.MaxItems)), node.List(slices.Repeat([]api.Node{text("1")}, 1<<16)), node.List(slices.Repeat([]api.Node{texts("1")}, 1<<16)), node.List(slices.Repeat([]api.Node{list()}, 1<<16)),
		{Kind: -1, Text: "1"}, {Kind: 6, Text: "1"}, {Text: "1"}, {Kind: api.NodeNumber, Text: "1"}, {Kind: api.NodeNumber, Text: "1", Number: 1}, {Kind: api.NodeBool, Text: "1"}, {Kind: api.NodeList, Text: "1"}, {Kind: api.NodeMap, Text: "1"}, {Kind: math.MaxInt, Items: []api.Node{text("1")}}, {Kind: 6, Items: []api.Node{text("1")}}, {Kind: api.NodeText, Items: []api.Node{text("1")}}, {Items: []api.Node{text("1")}}, {Items: []api.Node{texts("1"), texts("1")}}, {Kind: 6, Items: []api.Node{texts("1"), texts("1")}}, {Kind: api.NodeMap, Items: []api.Node{text("1")}}, {Kind: api.NodeMap, Items: []api.Node{texts("1"), texts("1")}},
		list(texts("1"), api.Node{Kind: 6, Items: []api.Node{text("1")}}), list(texts("1"), api.Node{Kind: api.NodeMap, Items: []api.Node{text("1")}}), list(api.Node{Kind: 6, Text: "1"}), list(api.Node{Text: "1"}), list(api.Node{Text: "1"}, text("1")), list(text("1"), api.Node{Kind: api.NodeNumber, Text: "1"}),
	}
	// A list that contains itself is nested too deeply.
	items := []api.Node{text("1"), text("1")}
	items[1] = api.Node{Kind: api.NodeList, Items: items}
	for _, n := range append(l, items[1]) {
		if x, e := threshold.Parse(n); e != api.ErrThreshold || !sameThreshold(x, api.Threshold{}) {
			t.Errorf("Parse(%.100v): %v, error %d", n.Kind, x, e)
		}
	}
	for _, n := range l {
		expectNotParsed(t, n)
	}
}

// changes are nodes that differ from n in one part.
func changes(n api.Node) []api.Node {
	var l []api.Node
	add := func(change func(other *api.Node)) {
		other := n
		other.Items = slices.Clone(n.Items)
		change(&other)
		l = append(l, other)
	}
	for kind := -1; kind <= 6; kind++ {
		if kind != n.Kind {
			add(func(other *api.Node) { other.Kind = kind })
		}
	}
	add(func(other *api.Node) { other.Bool = true })
	add(func(other *api.Node) { other.Number = 1 })
	add(func(other *api.Node) { other.Number = math.MinInt })
	add(func(other *api.Node) { other.Text += "0" })
	add(func(other *api.Node) { other.Text += "/1" })
	add(func(other *api.Node) { other.Text = " " + n.Text })
	add(func(other *api.Node) { other.Names = []string{"a"} })
	add(func(other *api.Node) { other.Names = []string{""} })
	add(func(other *api.Node) { other.Items = append(other.Items, api.Node{}) })
	add(func(other *api.Node) { other.Items = append(other.Items, api.Node{Kind: api.NodeList}) })
	for i, item := range n.Items {
		for _, changed := range changes(item) {
			add(func(other *api.Node) { other.Items[i] = changed })
		}
	}
	return l
}

func TestParseOfChangedNodes(t *testing.T) {
	thresholds := []api.Threshold{
		number(0), number(1), number(8), weighted(of(1, 1)), weighted(of(1, 2, 1, 2, 1, 2)), weighted(of(0, 1, 1, 3, 2, 3)), weighted(of(1, 1), of(1, 1)), weighted(of(1, 2, 1, 2), of(99, 100, 1, 10), of(1, 1)), weighted(of(1, 1), of(1, 1, 0, 1), of(1, 1), of(1, 2, 1, 2, 1, 2)),
	}
	parsed := 0
	for _, x := range thresholds {
		n := nodeOf(x)
		l := changes(n)
		for _, other := range l {
			if same(other, n) {
				t.Fatalf("%v is not changed", n)
			}
			if expectParsed(t, other) {
				parsed++
			}
		}
		expectParsed(t, list(n))
		expectParsed(t, list(n, n))
		expectParsed(t, node.Map([]string{"a"}, []api.Node{n}))
	}
	// Behind some texts, a digit more leaves one of a weight.
	if parsed == 0 || parsed > 20 {
		t.Error("changed nodes of thresholds:", parsed)
	}
}

// Each part of a node of a valid threshold by another one of a valid threshold.
func TestParseOfMixedNodes(t *testing.T) {
	r := rand.New(rand.NewSource(3))
	all := validThresholds()
	parsed := 0
	for range 20000 {
		a, b := nodeOf(all[r.Intn(len(all))]), nodeOf(all[r.Intn(len(all))])
		for _, n := range []api.Node{list(a, b), {Kind: api.NodeList, Items: slices.Concat(a.Items, b.Items)}, {Kind: api.NodeList, Items: a.Items[len(a.Items)/2:]}, {Kind: api.NodeList, Items: append(slices.Clone(a.Items), b)}} {
			if expectParsed(t, n) {
				parsed++
			}
		}
	}
	if parsed < 1000 {
		t.Error("mixed nodes of thresholds:", parsed)
	}
}

// Arguments for which nothing but P1 and rule 1 is promised

func TestEnoughAndNodeOfWhatIsNotValid(t *testing.T) {
	for _, x := range badThresholds() {
		for _, set := range [][]int{nil, {0}, {0, 1, 2, 3, 4, 5, 6, 7}, {-1, 8, 1000}} {
			if threshold.Enough(x, set) != threshold.Enough(x, set) {
				t.Errorf("Enough(%v, %v) has two results", x, set)
			}
		}
		n := threshold.Node(x)
		if !same(n, threshold.Node(x)) {
			t.Errorf("Node(%v) has two results", x)
		}
		// It is the node of no threshold, or of another one.
		if back, e := threshold.Parse(n); e == api.OK && sameThreshold(back, x) {
			t.Errorf("Parse of Node(%v): %v", x, back)
		}
	}
}

// Consequences

func TestParseOfNode(t *testing.T) {
	for _, x := range validThresholds() {
		if back, e := threshold.Parse(threshold.Node(x)); e != api.OK || !sameThreshold(back, x) {
			t.Errorf("Parse of Node(%v): %v, error %d", x, back, e)
		}
	}
}

func TestEnoughWithMoreKeys(t *testing.T) {
	sets := allSets(mostKeys)
	for i, x := range validThresholds() {
		if i%10 > 0 {
			continue
		}
		for _, set := range sets {
			if !threshold.Enough(x, set) {
				continue
			}
			for key := -1; key <= mostKeys; key++ {
				if !threshold.Enough(x, append(slices.Clone(set), key)) {
					t.Errorf("Enough(%v, %v) not with %d as well", x, set, key)
				}
			}
		}
	}
}

// All keys together are enough for what is valid for their number, and no set
// of fewer than the least number is.
func TestEnoughOfAllKeys(t *testing.T) {
	for _, x := range validThresholds() {
		for _, keys := range keysFor(x) {
			least := threshold.Least(x, keys)
			found := false
			for _, set := range allSets(keys) {
				enough := threshold.Enough(x, set)
				found = found || enough && len(set) == least
				if enough && len(set) < least || !enough && len(set) == keys {
					t.Errorf("Enough(%v, %v): %t; the least number is %d", x, set, enough, least)
				}
			}
			if !found {
				t.Errorf("Least(%v, %d): %d, but no such set is enough", x, keys, least)
			}
		}
	}
}

// Example

func TestTwoOfThree(t *testing.T) {
	x := weighted(of(1, 2, 1, 2, 1, 2))
	for _, set := range allSets(3) {
		if threshold.Enough(x, set) != (len(set) >= 2) {
			t.Errorf("Enough(%v, %v)", x, set)
		}
	}
	if !threshold.Valid(x, 3) || threshold.Least(x, 3) != 2 {
		t.Error("Least:", threshold.Least(x, 3))
	}
}

// Rule 1

// roomy returns a copy of x with more memory behind its lists, and a function
// that tells whether all of it is as it was.
func roomy(x api.Threshold) (api.Threshold, func() bool) {
	var backs, before [][]api.Fraction
	lists := make([][]api.Fraction, 0, len(x.Weights)+2)
	for _, l := range x.Weights {
		back := append(slices.Clone(l), of(5, 7, 7, 5)...)
		backs, before = append(backs, back), append(before, slices.Clone(back))
		lists = append(lists, back[:len(l)])
	}
	behind := append(lists, of(1, 3), of(2, 3))
	return api.Threshold{Number: x.Number, Weights: lists}, func() bool {
		return slices.EqualFunc(backs, before, slices.Equal[[]api.Fraction]) && sameThreshold(weighted(behind...), weighted(append(slices.Clone(x.Weights), of(1, 3), of(2, 3))...))
	}
}

func TestThresholdsAreNotChanged(t *testing.T) {
	for _, x := range append(validThresholds()[:2000], badThresholds()...) {
		given, asItWas := roomy(x)
		for keys := -1; keys <= 9; keys++ {
			threshold.Valid(given, keys)
			threshold.Least(given, keys)
		}
		threshold.Enough(given, []int{7, 0, 0, 3})
		threshold.Node(given)
		for _, l := range given.Weights {
			threshold.Sum(l)
		}
		if !asItWas() {
			t.Errorf("%v is changed", x)
		}
	}
}

func TestSetsAreNotChanged(t *testing.T) {
	for _, x := range validThresholds()[:200] {
		for _, set := range [][]int{{7, 0, 0, 3, -1, 8, 100}, {3, 2, 1, 0}, {}, {5, 5, 5}} {
			back := append(slices.Clone(set), 9, 8)
			before := slices.Clone(back)
			threshold.Enough(x, back[:len(set)])
			if !slices.Equal(back, before) {
				t.Errorf("Enough changes the set %v", before)
			}
		}
	}
}

// overwrite writes into all memory that n has, also behind its items.
func overwrite(n api.Node) {
	items := n.Items[:cap(n.Items)]
	for i, item := range items {
		overwrite(item)
		items[i] = text("overwritten")
	}
}

func TestNodesShareNoMemory(t *testing.T) {
	for _, x := range validThresholds() {
		want := nodeOf(x)
		first, second := threshold.Node(x), threshold.Node(x)
		overwrite(first)
		if !same(second, want) {
			t.Errorf("two nodes of %v share memory", x)
		}
		for i, item := range second.Items {
			overwrite(item)
			if !slices.EqualFunc(second.Items[i+1:], want.Items[i+1:], same) {
				t.Errorf("two parts of a node of %v share memory", x)
			}
		}
	}
}

func TestParsedThresholdsShareNoMemory(t *testing.T) {
	for _, x := range validThresholds() {
		n := nodeOf(x)
		back := append(slices.Clone(n.Items), text("behind"))
		n.Items = back[:len(n.Items)]
		first, _ := threshold.Parse(n)
		second, _ := threshold.Parse(n)
		for i, l := range first.Weights {
			for j := range l[:cap(l)] {
				l[:cap(l)][j] = api.Fraction{Num: 7, Den: 3}
			}
			if !slices.EqualFunc(first.Weights[i+1:], x.Weights[i+1:], slices.Equal[[]api.Fraction]) {
				t.Errorf("two lists of Parse of the node of %v share memory", x)
			}
		}
		for i := range first.Weights[:cap(first.Weights)] {
			first.Weights[:cap(first.Weights)][i] = nil
		}
		if !sameThreshold(second, x) || !same(n, nodeOf(x)) || len(back) > len(n.Items) && !same(back[len(n.Items)], text("behind")) {
			t.Errorf("Parse of the node of %v shares memory with another result, or changes the node", x)
		}
	}
}

// nil and empty lists mean the same.
func TestEmptyLists(t *testing.T) {
	for n := -1; n <= 9; n++ {
		a, b := number(n), api.Threshold{Number: n, Weights: make([][]api.Fraction, 0, 3)}
		for keys := -1; keys <= 9; keys++ {
			if threshold.Valid(a, keys) != threshold.Valid(b, keys) || threshold.Least(a, keys) != threshold.Least(b, keys) {
				t.Errorf("Valid or Least of %d and %d keys with an empty list", n, keys)
			}
		}
		if !same(threshold.Node(a), threshold.Node(b)) || threshold.Enough(a, nil) != threshold.Enough(b, []int{}) {
			t.Errorf("Node or Enough of %d with an empty list", n)
		}
	}
	for _, n := range []api.Node{{Kind: api.NodeText, Text: "3", Names: []string{}, Items: []api.Node{}}, {Kind: api.NodeText, Text: "3", Items: make([]api.Node, 0, 3)}} {
		if x, e := threshold.Parse(n); e != api.OK || !sameThreshold(x, number(3)) {
			t.Errorf("Parse(%v): %v, error %d", n, x, e)
		}
	}
	n := texts("1/2", "1/2")
	n.Names, n.Items[0].Items, n.Items[1].Names = []string{}, []api.Node{}, []string{}
	if x, e := threshold.Parse(n); e != api.OK || !sameThreshold(x, weighted(of(1, 2, 1, 2))) {
		t.Errorf("Parse(%v): %v, error %d", n, x, e)
	}
}

// All of them, with many strings

// source makes thresholds, sets and nodes of bytes.
type source struct{ bytes []byte }

// next returns a number from 0 to most.
func (s *source) next(most int) int {
	if len(s.bytes) == 0 {
		return 0
	}
	b := s.bytes[0]
	s.bytes = s.bytes[1:]
	return int(b) % (most + 1)
}

// fraction returns mostly a weight.
func (s *source) fraction() api.Fraction {
	if s.next(20) == 20 {
		return api.Fraction{Num: s.next(255) - 99, Den: s.next(255) - 99}
	}
	den := 1 + s.next(99)
	f := api.Fraction{Num: s.next(den), Den: den}
	for d := den; d > 1; d-- {
		if f.Num%d == 0 && f.Den%d == 0 {
			f = api.Fraction{Num: f.Num / d, Den: f.Den / d}
		}
	}
	return f
}

func (s *source) threshold() api.Threshold {
	var t api.Threshold
	if s.next(5) == 0 {
		t.Number = s.next(12) - 1
	}
	for range s.next(3) {
		var l []api.Fraction
		for range s.next(5) {
			l = append(l, s.fraction())
		}
		t.Weights = append(t.Weights, l)
	}
	return t
}

func (s *source) set() []int {
	var set []int
	for range s.next(12) {
		set = append(set, s.next(10)-1)
	}
	return set
}

func (s *source) text() string {
	switch s.next(4) {
	case 0:
		return strconv.Itoa(s.next(9))
	case 1:
		b := make([]byte, s.next(5))
		for i := range b {
			b[i] = "0123456789/+- abxABX_"[s.next(20)]
		}
		return string(b)
	}
	return textOf(s.fraction())
}

func (s *source) node(levels int) api.Node {
	n := api.Node{Kind: api.NodeList}
	switch choice := s.next(40); {
	case choice == 40:
		return api.Node{Kind: s.next(6), Bool: s.next(9) == 9, Number: s.next(2) / 2, Text: s.text()}
	case choice > 20 || levels == 0:
		return text(s.text())
	case choice == 20:
		n.Kind = s.next(6)
	case choice == 19:
		n.Names = []string{s.text()}
	}
	for range s.next(5) {
		n.Items = append(n.Items, s.node(levels-1))
	}
	return n
}

// expectAll checks all promises of a threshold, a set and a node, and reports
// whether the threshold is valid, and whether the node is one of a threshold.
func expectAll(t *testing.T, x api.Threshold, set []int, n api.Node) (valid, parsed bool) {
	t.Helper()
	for keys := -1; keys <= mostKeys+1; keys++ {
		expectValid(t, x, keys)
		expectLeast(t, x, keys)
	}
	for _, l := range x.Weights {
		if allWeights(l) {
			expectSum(t, l)
		} else {
			expectNoSum(t, l, api.ErrRange)
		}
	}
	valid = len(keysFor(x)) > 0
	if valid {
		expectEnough(t, x, set)
		expectNode(t, x, nodeOf(x))
	}
	return valid, expectParsed(t, n)
}

func TestManyBytes(t *testing.T) {
	r := rand.New(rand.NewSource(4))
	valid, parsed := 0, 0
	for range 50000 {
		b := make([]byte, 100)
		r.Read(b)
		s := &source{b}
		isValid, isParsed := expectAll(t, s.threshold(), s.set(), s.node(3))
		if isValid {
			valid++
		}
		if isParsed {
			parsed++
		}
	}
	if valid < 5000 || parsed < 2000 {
		t.Error("valid thresholds, and nodes of some:", valid, parsed)
	}
}

// FuzzAll looks for thresholds, sets and nodes that break a promise.
func FuzzAll(f *testing.F) {
	r := rand.New(rand.NewSource(5))
	for range 100 {
		b := make([]byte, 80)
		r.Read(b)
		f.Add(b)
	}
	f.Fuzz(func(t *testing.T, b []byte) {
		if len(b) > 1<<10 {
			return
		}
		s := &source{b}
		expectAll(t, s.threshold(), s.set(), s.node(3))
	})
}
