package tiles_test

import (
	"math/rand"
	"slices"
	"testing"

	"tiles/api"
	"tiles/tiles"
)

// errand is a task and what must come of it, known ahead of any call.
type errand struct {
	name string
	task api.Task
	want api.Result
}

func tasksOf(all []errand) []api.Task {
	var list []api.Task
	for _, one := range all {
		list = append(list, one.task)
	}
	return list
}

func sameResult(a api.Result, b api.Result) bool {
	return slices.Equal(a.Out, b.Out) && a.Code == b.Code
}

// alone is what Multiply answers of a task.
func alone(k api.Task) api.Result {
	out, code := tiles.Multiply(k.Job, k.Left, k.Right, k.Out)
	return api.Result{Out: out, Code: code}
}

func checkMany(t *testing.T, all []errand) {
	t.Helper()
	got := tiles.Many(tasksOf(all))
	if len(got) != len(all) {
		t.Fatalf("%d results of %d tasks", len(got), len(all))
	}
	for i, one := range all {
		if !sameResult(got[i], one.want) {
			t.Errorf("%s, task %d of %d: Many = %v, want %v, of %+v", one.name, i, len(all), got[i], one.want, one.task)
		}
		if want := alone(one.task); !sameResult(got[i], want) {
			t.Errorf("%s, task %d of %d: Many = %v, Multiply alone %v, of %+v", one.name, i, len(all), got[i], want, one.task)
		}
	}
}

// byWords is what must come of a task that is right.
func byWords(name string, k api.Task) errand {
	return errand{name, k, api.Result{Out: wantMultiply(k)}}
}

func fromProducts(all []product) []errand {
	var list []errand
	for _, c := range all {
		c.turn(&c.task)
		list = append(list, errand{c.name, c.task, api.Result{Out: c.want}})
	}
	return list
}

// refused has every fault of a task, one in each errand.
func refused() []errand {
	var list []errand
	for _, f := range faults() {
		k := fullTask()
		f.turn(&k)
		list = append(list, errand{f.name, k, api.Result{Code: f.want}})
	}
	return list
}

func anyErrands(r *rand.Rand, n int) []errand {
	var list []errand
	for range n {
		list = append(list, byWords("any task", anyTask(r, anySide(r), anySide(r), anySide(r))))
	}
	return list
}

// between lays one of others behind each of all.
func between(all []errand, others []errand) []errand {
	var list []errand
	for i, one := range all {
		list = append(list, one, others[i%len(others)])
	}
	return list
}

func TestP8NoTasks(t *testing.T) {
	spare := []api.Task{example1(), example4()}
	for name, none := range map[string][]api.Task{"nil": nil, "empty": {}, "empty with spare room": spare[:0]} {
		if got := tiles.Many(none); len(got) != 0 {
			t.Errorf("%s: %v", name, got)
		}
	}
}

func TestP8One(t *testing.T) {
	for _, one := range slices.Concat(fromProducts(examples()), fromProducts(writtenOut()), refused(), anyErrands(rand.New(rand.NewSource(40)), 100)) {
		checkMany(t, []errand{one})
	}
}

func TestP8ManyWrittenOut(t *testing.T) {
	checkMany(t, fromProducts(examples()))
	checkMany(t, fromProducts(slices.Concat(examples(), writtenOut())))
}

// A task that holds nothing at all has no kind.
func TestP8TaskOfNothing(t *testing.T) {
	nothing := errand{"nothing", api.Task{}, api.Result{Code: api.ErrKind}}
	right := byWords("full", fullTask())
	checkMany(t, []errand{nothing})
	checkMany(t, []errand{nothing, right, nothing, nothing, right})
}

func TestP8RightAmongRefused(t *testing.T) {
	wrong := refused()
	codes := map[api.Errno]int{}
	for _, one := range wrong {
		codes[one.want.Code]++
	}
	for code := api.ErrKind; code <= api.ErrWorkers; code++ {
		if codes[code] == 0 {
			t.Errorf("the test itself has no task with the error %d", code)
		}
	}
	right := slices.Concat(fromProducts(writtenOut()), anyErrands(rand.New(rand.NewSource(41)), 100))
	checkMany(t, wrong)
	checkMany(t, between(wrong, right))
	checkMany(t, between(right, wrong))
	for _, one := range wrong {
		checkMany(t, []errand{one, right[0], one, one, right[1]})
	}
}

// unlike are tasks of both kinds, with sides, blocks and workers from the least to the greatest.
func unlike() []errand {
	r := rand.New(rand.NewSource(42))
	var list []errand
	for i, sides := range [][3]int{{24, 24, 24}, {1, 1, 1}, {7, 0, 5}, {0, 3, 2}, {24, 1, 3}, {2, 24, 1}, {5, 6, 7}} {
		for _, kind := range []int{api.U8, api.I8} {
			k := plainAny(r, kind, sides[0], sides[1], sides[2])
			k.Job.LeftZero, k.Job.RightZero = 1000*i, -3
			for _, cut := range [][4]int{{1, 1, 1, 64}, {4, 5, 3, 2}, {64, 64, 64, 1}} {
				k.Job.BlockRows, k.Job.BlockCols, k.Job.BlockDepth, k.Job.Workers = cut[0], cut[1], cut[2], cut[3]
				list = append(list, byWords("unlike others", k))
			}
		}
	}
	return list
}

func TestP8TheSameTwice(t *testing.T) {
	for _, one := range slices.Concat(unlike(), refused(), anyErrands(rand.New(rand.NewSource(43)), 100)) {
		checkMany(t, []errand{one, one})
		checkMany(t, []errand{one, one, one, one, one})
	}
}

func TestP8BehindAnyOther(t *testing.T) {
	all := unlike()
	for _, ahead := range all {
		for _, behind := range all {
			checkMany(t, []errand{ahead, behind, ahead})
		}
	}
}

// One thing alone is other in the task ahead.
func TestP8BehindOtherNumbers(t *testing.T) {
	for _, number := range []func(k *api.Task) *int{
		func(k *api.Task) *int { return &k.Job.BlockRows },
		func(k *api.Task) *int { return &k.Job.BlockCols },
		func(k *api.Task) *int { return &k.Job.BlockDepth },
		func(k *api.Task) *int { return &k.Job.Workers },
	} {
		var list []errand
		for _, n := range []int{4, 1, 64, 2, 63, 3, 1, 24, 5, 64} {
			k := plainAny(rand.New(rand.NewSource(44)), api.I8, 9, 10, 11)
			*number(&k) = n
			list = append(list, byWords("other numbers", k))
		}
		checkMany(t, list)
	}
}

// The greatest sums first: whatever of them were left would show in sums of nothing.
func TestP8NothingIsLeftOfGreatTasks(t *testing.T) {
	for _, kind := range []int{api.U8, api.I8} {
		great := simpleTask(24, 24, 24)
		great.Job.Kind = kind
		great.Left, great.Right = fillWith(576, func() int { return 127 }), fillWith(576, func() int { return 127 })
		for _, workers := range []int{1, 2, 7, 64} {
			great.Job.Workers = workers
			small := simpleTask(24, 0, 24)
			small.Job.Kind, small.Job.Workers = kind, workers
			zero := simpleTask(24, 24, 24)
			zero.Job.Kind, zero.Job.Workers = kind, workers
			checkMany(t, []errand{
				{"great", great, api.Result{Out: fillWith(576, func() int { return 24 * 127 * 127 })}},
				{"without depth", small, api.Result{Out: make([]int, 576)}},
				{"great", great, api.Result{Out: fillWith(576, func() int { return 24 * 127 * 127 })}},
				{"of zeros", zero, api.Result{Out: make([]int, 576)}},
			})
		}
	}
}

func TestP8ByWords(t *testing.T) {
	r := rand.New(rand.NewSource(45))
	wrong := refused()
	for range 150 {
		list := anyErrands(r, 1+r.Intn(12))
		for range r.Intn(4) {
			list = slices.Insert(list, r.Intn(len(list)+1), wrong[r.Intn(len(wrong))])
		}
		checkMany(t, list)
	}
}

func TestP8InTheOrderOfTheTasks(t *testing.T) {
	list := between(anyErrands(rand.New(rand.NewSource(46)), 60), refused())
	checkMany(t, list)
	slices.Reverse(list)
	checkMany(t, list)
	rand.New(rand.NewSource(47)).Shuffle(len(list), func(i int, j int) { list[i], list[j] = list[j], list[i] })
	checkMany(t, list)
}

func TestP8VeryManyTasks(t *testing.T) {
	var list []errand
	for i := range 20000 {
		k := one(api.U8, i%256, i/256)
		list = append(list, errand{"one of very many", k, api.Result{Out: []int{(i % 256) * (i / 256)}}})
	}
	checkMany(t, list)
}
