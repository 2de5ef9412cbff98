"""Tasks and their frames, and the steps by which they go on."""

from stealhall.code import code_of
from stealhall.errors import Broken
from stealhall.reckoning import TOO_DEEP, is_future, path_of, reckon, reckon_number

DEEPEST_FRAME = 30

# Where some parts of a step stand in the tuple by which a web tells it.
FRAME = 2
WAITED = 3
STARTED = 4
BEGUN = 5
CHANGE = 6
ENDED = 7


class Frame:
    """One running of a work: where it stands in its code, and what its names stand for.

    Its number counts the frames of its task by their beginnings.
    """

    def __init__(self, code, room, worths, *, depth, number, place=0):
        self.code = code
        self.room = room
        self.worths = worths
        self.depth = depth
        self.number = number
        self.place = place


class Task:
    """What runs by itself: the frames that live, the last of them running, and the result once it has ended."""

    def __init__(self, path, frames):
        self.path = path
        self.frames = frames
        self.frames_begun = len(frames)
        self.goes = 0
        self.steps = 0
        self.result = None


def frame_of_work(work, handed, *, depth=1, number=0):
    """Tell the frame of a work that is handed these things, at its beginning."""
    return Frame(code_of(work), work[3], dict(zip(work[2], handed)), depth=depth, number=number)


def frame_twin(frame):
    """Tell a frame that stands as this one does and has nothing in common with it that changes."""
    worths = dict(frame.worths)
    return Frame(frame.code, frame.room, worths, depth=frame.depth, number=frame.number, place=frame.place)


def task_twin(task):
    """Tell a task that stands as this one does and has nothing in common with it that changes."""
    other = Task(task.path, [frame_twin(frame) for frame in task.frames])
    other.frames_begun = task.frames_begun
    other.goes = task.goes
    other.steps = task.steps
    other.result = task.result
    return other


def room_of(task):
    """Tell the room that a task takes."""
    return sum([frame.room for frame in task.frames])


def next_row(task):
    """Tell the row that a task goes over next."""
    frame = task.frames[-1]
    return frame.code[frame.place]


def waited_path(task):
    """Tell the path of the task for which the next row waits, None where it is no wait or fails ahead of that."""
    row = next_row(task)
    if row[0] != "wait":
        return None
    worth = task.frames[-1].worths.get(row[2])
    return worth[1] if is_future(worth) else None


def wanted_room(task, book):
    """Tell the room of the frame that the next row begins, None where it begins none, also as it fails."""
    row = next_row(task)
    if row[0] not in ("go", "call"):
        return None
    try:
        handed_on(task.frames[-1], row)
    except Broken:
        return None
    return book.tree(row[2])[3]


def do_step(task, book, results):
    """Do a task's next row; tell the step as a web tells it, and the task that it started, or None.

    results has by its path what each ended task came to, that for which the row waits among them.
    """
    head = (task.path, task.steps, task.frames[-1].number, waited_path(task))
    room = room_of(task)
    started, begun = try_row(task, book, results)
    task.steps += 1
    change = room_of(task) - room
    if started is None:
        return (*head, None, begun, change, task.result is not None), None
    return (*head, started.path, begun, change + room_of(started), False), started


def try_row(task, book, results):
    """Do a task's next row, or end the task where the row fails; tell the task started, and whether a frame begins."""
    word = next_row(task)[0]
    try:
        started = do_row(task, book, results)
    except Broken as failure:
        task.frames.clear()
        task.result = ("fails", failure.number)
        return None, False
    return started, word in ("go", "call")


def do_row(task, book, results):
    """Do a task's next row; tell the task that it started, or None. A row that fails does nothing but raise Broken."""
    row = next_row(task)
    frame = task.frames[-1]
    word = row[0]
    if word == "go":
        return start_task(task, row, book)
    if word == "call":
        call_work(task, row, book)
    elif word == "give":
        give(task, reckon(row[1], frame.worths))
    elif word == "fail":
        raise Broken(reckon_number(row[1], frame.worths))
    elif word == "if":
        move(frame, frame.place + 1 if reckon_number(row[1], frame.worths) != 0 else row[2])
    elif word == "wait":
        name_and_move(frame, row[1], wait_worth(row, frame, results))
    else:
        name_and_move(frame, row[1], reckon(row[2], frame.worths))
    return None


def start_task(task, row, book):
    """Do a go; tell the task that it starts."""
    frame = task.frames[-1]
    path = (*task.path, task.goes)
    started = Task(path, [begun_frame(frame, row, book)])
    task.goes += 1
    name_and_move(frame, row[1], ("future", path))
    return started


def call_work(task, row, book):
    """Do a call; its frame stays at the call until the called one gives."""
    frame = begun_frame(task.frames[-1], row, book, number=task.frames_begun)
    task.frames_begun += 1
    task.frames.append(frame)


def begun_frame(frame, row, book, *, number=0):
    """Tell the frame that a go or call of another frame begins."""
    handed = handed_on(frame, row)
    return frame_of_work(book.tree(row[2]), handed, depth=frame.depth + 1, number=number)


def handed_on(frame, row):
    """Tell what a go or call of a frame hands on; all that can fail of it is looked at here."""
    handed = [reckon(tree, frame.worths) for tree in row[3]]
    if frame.depth >= DEEPEST_FRAME:
        raise Broken(TOO_DEEP)
    return handed


def give(task, worth):
    """End a task's last frame, which gives that."""
    task.frames.pop()
    if not task.frames:
        task.result = ("gives", worth)
        return
    caller = task.frames[-1]
    name_and_move(caller, next_row(task)[1], worth)


def wait_worth(row, frame, results):
    """Tell what a wait gives its name."""
    word, worth = results[path_of(row[2], frame.worths)]
    if word == "gives":
        return worth
    if row[3] is None:
        raise Broken(worth)
    return reckon(row[3], frame.worths)


def name_and_move(frame, name, worth):
    """Give a name what it stands for, and go on behind the row."""
    frame.worths[name] = worth
    move(frame, frame.place + 1)


def move(frame, place):
    """Go on at a place, or where the jumps there lead, as a jump is no step."""
    while frame.code[place][0] == "jump":
        place = frame.code[place][1]
    frame.place = place
