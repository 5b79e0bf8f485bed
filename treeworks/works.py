"""Tables, stages and pipelines by names, and their scripts (points 23 and 24)."""

from treeworks.errors import BadBlock, BadLine, BadName, Repeated, Unknown, WorkError
from treeworks.names import fields_of, is_small_name
from treeworks.pipelines import Pipeline
from treeworks.stages import Stage
from treeworks.tables import Table

STARTS = ("table ", "stage ", "pipeline ")


class Works:
    """Tables, stages and pipelines, each with a name of its own."""

    def __init__(self):
        self._blocks = {}
        self._tables = {}
        self._stages = {}
        self._pipelines = {}

    @classmethod
    def read(cls, script):
        """The object with this script."""
        works = cls()
        if not script:
            return works
        for first, lines in grouped(script.split("\n")):
            try:
                add_block(works, lines)
            except BadLine as error:
                raise BadLine(first + error.line - 1) from error
            except WorkError as fault:
                raise BadBlock(first) from fault
        return works

    def add_table(self, table):
        """Adds a table."""
        self._check_new(table.name)
        self._tables[table.name] = table
        self._blocks[table.name] = table.description

    def add_stage(self, stage):
        """Adds a stage between tables that are there."""
        self._check_new(stage.name)
        for table in (stage.source, stage.target):
            if table.name not in self._tables or self._tables[table.name] != table:
                raise Unknown(table.name)
        self._stages[stage.name] = stage
        self._blocks[stage.name] = stage.description

    def add_pipeline(self, name, *stages):
        """Adds the pipeline with the stages of these names."""
        if not is_small_name(name):
            raise BadName(name)
        self._check_new(name)
        found = [self.stage_named(stage) for stage in stages]
        self._pipelines[name] = Pipeline(*found)
        listed = ", ".join(stages)
        self._blocks[name] = f"pipeline {name} = {listed}"

    def _check_new(self, name):
        if name in self._blocks:
            raise Repeated(name)

    def table_named(self, name):
        """The table with this name."""
        if name not in self._tables:
            raise Unknown(name)
        return self._tables[name]

    def stage_named(self, name):
        """The stage with this name."""
        if name not in self._stages:
            raise Unknown(name)
        return self._stages[name]

    def pipeline_named(self, name):
        """The pipeline with this name."""
        if name not in self._pipelines:
            raise Unknown(name)
        return self._pipelines[name]

    def __iter__(self):
        return iter(self._blocks)

    def tables(self):
        """The list of the tables, in the order in which they were added."""
        return list(self._tables.values())

    def script(self):
        """The script: one block for each name."""
        return "\n".join(list(self._blocks.values()))


def grouped(lines):
    """The blocks of a script: pairs of the number of the first line and the list of the lines."""
    blocks = []
    for at, line in enumerate(lines):
        if any([line.startswith(start) for start in STARTS]):
            blocks.append((at + 1, [line]))
        elif not blocks:
            raise BadLine(1)
        else:
            blocks[-1][1].append(line)
    return blocks


def add_block(works, lines):
    """Adds what the lines of a block tell of."""
    if lines[0].startswith("table "):
        works.add_table(Table.read("\n".join(lines)))
    elif lines[0].startswith("stage "):
        tables = works.tables()
        works.add_stage(Stage.read("\n".join(lines), *tables))
    else:
        add_pipeline_block(works, lines)


def add_pipeline_block(works, lines):
    """Adds a pipeline; the first line begins with `pipeline `."""
    fields = fields_of(lines[0])
    if len(fields) < 4 or fields[2] != "=":
        raise BadLine(1)
    if not all([field.endswith(",") for field in fields[3:-1]]):
        raise BadLine(1)
    if len(lines) > 1:
        raise BadLine(2)
    stages = [field[:-1] for field in fields[3:-1]]
    stages.append(fields[-1])
    works.add_pipeline(fields[1], *stages)
