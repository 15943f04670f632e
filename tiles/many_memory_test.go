package tiles_test

import (
	"math"
	"math/rand"
	"reflect"
	"runtime"
	"slices"
	"sync"
	"testing"

	"tiles/api"
	"tiles/tiles"
)

// wildTasks have any number anywhere, and lists of any length.
func wildTasks() []api.Task {
	var all []api.Task
	for _, n := range append(anyNumbers(), math.MinInt, math.MaxInt) {
		for _, buffer := range [][]int{nil, {}, {n}, {n, n, n, n}, make([]int, 5000), make([]int, 5001)} {
			all = append(all, api.Task{Job: wildJob(n, false), Left: buffer, Right: buffer, Out: buffer})
			all = append(all, api.Task{Job: wildJob(n, true), Left: buffer, Right: nil, Out: buffer})
		}
	}
	return all
}

func TestP1ManyWildTasks(t *testing.T) {
	wild := slices.Concat(wildTasks(), tasks())
	rand.New(rand.NewSource(50)).Shuffle(len(wild), func(i int, j int) { wild[i], wild[j] = wild[j], wild[i] })
	got := tiles.Many(wild)
	if len(got) != len(wild) {
		t.Fatalf("%d results of %d tasks", len(got), len(wild))
	}
	for i, r := range got {
		if r.Code != api.OK && len(r.Out) != 0 {
			t.Errorf("numbers with the error %d, of %+v", r.Code, wild[i].Job)
		}
		if want := alone(wild[i]); !sameResult(r, want) {
			t.Errorf("Many = %v, Multiply alone %v, of %+v", r, want, wild[i].Job)
		}
	}
}

// roomyList has spare room behind it, which holds tasks too, and so has each list of each task.
func roomyList(all []api.Task) []api.Task {
	list := make([]api.Task, 0, len(all)+2)
	for _, k := range all {
		list = append(list, roomy(k))
	}
	list = append(list, roomy(example1()), roomy(example4()))
	return list[:len(all)]
}

// held is all that a list of tasks holds, in its spare room too.
type held struct {
	tasks []api.Task
	lists [][]int
}

func heldByAll(all []api.Task) held {
	h := held{tasks: slices.Clone(all[:cap(all)])}
	for i := range h.tasks {
		h.lists = append(h.lists, heldBy(h.tasks[i])...)
		for _, list := range listsOf(&h.tasks[i]) {
			*list = slices.Clone(*list)
		}
	}
	return h
}

func TestP2ManyWritesIntoNothing(t *testing.T) {
	list := roomyList(tasks())
	before := heldByAll(list)
	for _, some := range [][]api.Task{list, list[:0], list[:1], list[:len(list)/2], list} {
		tiles.Many(some)
		if after := heldByAll(list); !reflect.DeepEqual(before, after) {
			t.Fatalf("Many wrote into what was handed in, of %d tasks", len(some))
		}
	}
}

func TestP2ManyAgainBehindOthers(t *testing.T) {
	var lists [][]api.Task
	all := tasks()
	for len(all) > 0 {
		n := min(1+len(lists)%9, len(all))
		lists = append(lists, all[:n])
		all = all[n:]
	}
	checkSameAgain(t, lists, tiles.Many)
}

func TestP2SpareRoomChangesNothingForMany(t *testing.T) {
	if bare, wide := tiles.Many(tasks()), tiles.Many(roomyList(tasks())); !reflect.DeepEqual(bare, wide) {
		t.Error("with spare room Many answers something else")
	}
}

// checkApart writes into each list that came out a number of its own: where two share memory, one loses its number.
func checkApart(t *testing.T, results []api.Result) {
	t.Helper()
	for i, r := range results {
		spoil(r.Out, -1000-i)
	}
	for i, r := range results {
		for _, n := range r.Out[:cap(r.Out)] {
			if n != -1000-i {
				t.Fatalf("the list of task %d shares memory with another one", i)
			}
		}
	}
}

func cloneResults(all []api.Result) []api.Result {
	all = slices.Clone(all)
	for i := range all {
		all[i].Out = slices.Clone(all[i].Out)
	}
	return all
}

// checkNewMemory has a list of tasks done over and over, while what came out is written over.
func checkNewMemory(t *testing.T, list []api.Task) {
	t.Helper()
	before := heldByAll(list)
	first := tiles.Many(list)
	want := cloneResults(first)
	second := tiles.Many(list)
	checkApart(t, slices.Concat(first, second))
	if after := heldByAll(list); !reflect.DeepEqual(before, after) {
		t.Error("what comes out shares memory with what was handed in")
	}
	spoil(first, api.Result{Out: []int{-7}, Code: -8})
	if slices.ContainsFunc(second[:cap(second)], func(r api.Result) bool { return r.Code == -8 }) {
		t.Error("two lists of results share memory")
	}
	if third := tiles.Many(list); !slices.EqualFunc(third, want, sameResult) {
		t.Error("what was written into an answer came back")
	}
}

func TestP2ResultsAreNewMemory(t *testing.T) {
	checkNewMemory(t, tasks())
	checkNewMemory(t, roomyList(tasks()))
}

// sharing are tasks that have their lists in common: all of them, some, and pieces of one.
func sharing() []api.Task {
	k := example1()
	other := k
	other.Job.LeftZero = 1
	wrong := k
	wrong.Job.Workers = 0
	list := []int{1, 2, 3, 4, 5, 6, 7, 8, 9, 10}
	pieces := example1()
	pieces.Left, pieces.Right, pieces.Out = list[:4], list[2:6], list[6:10]
	pieces.Job.BiasBy, pieces.Job.Bias = 1, list[1:3]
	whole := example1()
	whole.Left, whole.Right, whole.Out = list, list, list
	whole.Job.ScaleBy, whole.Job.Factors, whole.Job.Shifts = 2, list[4:6], list[:2]
	// What comes out of one task must not go in to the next one, though the list is the same.
	chained := example1()
	chained.Left, chained.Right = k.Out, k.Out
	return []api.Task{k, k, other, wrong, chained, k, pieces, whole, pieces, other, whole}
}

func TestP2TasksThatShareTheirLists(t *testing.T) {
	checkNewMemory(t, sharing())
	var list []errand
	for _, k := range sharing() {
		if k.Job.Workers == 0 {
			list = append(list, errand{"shared and wrong", k, api.Result{Code: api.ErrWorkers}})
		} else {
			list = append(list, byWords("shared", k))
		}
	}
	checkMany(t, list)
	if got := list[0].want.Out; !slices.Equal(got, []int{19, 22, 43, 50}) {
		t.Errorf("the test itself is wrong: %v", got)
	}
}

// What is written into tasks behind the call is not seen in its answer.
func TestP2NothingIsKeptOfTasks(t *testing.T) {
	want := tiles.Many(tasks())
	list := roomyList(tasks())
	got := tiles.Many(list)
	for i := range list {
		for _, one := range listsOf(&list[i]) {
			spoil(*one, -7)
		}
	}
	spoil(list, api.Task{})
	if !slices.EqualFunc(got, want, sameResult) {
		t.Error("an answer changed with what was handed in")
	}
}

func TestP2ManyHoweverTheWorkersRun(t *testing.T) {
	list := []errand{byWords("first", manyTiles(51)), byWords("second", manyTiles(52)), byWords("first", manyTiles(51))}
	for _, processors := range []int{1, 2, 3, runtime.NumCPU()} {
		before := runtime.GOMAXPROCS(processors)
		for range 10 {
			checkMany(t, list)
		}
		runtime.GOMAXPROCS(before)
	}
}

// Calls that run at the same time, on the same list of tasks, do not get into each other's way.
func TestP2ManyAtTheSameTime(t *testing.T) {
	list := tasksOf([]errand{byWords("first", manyTiles(53)), byWords("second", manyTiles(54))})
	list = slices.Concat(list, sharing())
	want := tiles.Many(list)
	var all sync.WaitGroup
	for range 16 {
		all.Go(func() {
			if got := tiles.Many(list); !slices.EqualFunc(got, want, sameResult) {
				t.Error("among other calls Many answers something else")
			}
		})
	}
	all.Wait()
}

func TestP1WorkersOfManyEnd(t *testing.T) {
	k := manyTiles(55)
	checkWorkersEnd(t, func() [][]int {
		var all [][]int
		for _, r := range tiles.Many([]api.Task{k, k, k}) {
			all = append(all, r.Out)
		}
		return all
	})
}
