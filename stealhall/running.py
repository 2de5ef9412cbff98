"""The tasks of a run by their paths, each of which goes on row by row when it is asked to."""

from stealhall.tasks import do_step, task_twin, waited_path, wanted_room


class Running:
    """The living tasks of a run of a book, and what the ended ones came to, by their paths."""

    def __init__(self, book, tasks, results):
        self.book = book
        self.tasks = tasks
        self.results = results

    def waited(self, path):
        """Tell the path for which a task's next row waits, or None."""
        return waited_path(self.tasks[path])

    def wanted(self, path):
        """Tell the room of the frame that a task's next row begins, or None."""
        return wanted_room(self.tasks[path], self.book)

    def step(self, path):
        """Do a task's next row; tell the step as a web tells it."""
        task = self.tasks[path]
        node, started = do_step(task, self.book, self.results)
        if started is not None:
            self.tasks[started.path] = started
        if task.result is not None:
            self.results[path] = task.result
            del self.tasks[path]
        return node


def running_twin(running):
    """Tell a run that stands as this one does and has nothing in common with it that changes."""
    tasks = {path: task_twin(running.tasks[path]) for path in running.tasks}
    return Running(running.book, tasks, {path: running.results[path] for path in running.results})
